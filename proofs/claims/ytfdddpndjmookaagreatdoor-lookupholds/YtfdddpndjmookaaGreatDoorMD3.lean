/- copy of a list of elements. -/
import Derived.Test.YtfdddpndjmookaaGreatDoorMD2
import Derived.Laws.IdiomCopy
import Derived.Laws.CopyOwn
import Derived.Test.YtfdddpndjmookaaGreatDoorGC
namespace Go.Proofs.YtfdddpndjmookaaGreatDoor
open Go.RowKit

theorem run_copy_wide {P : Program} (w : World) (dT sT ty elem : TypeId) (b o dLen dCap : Nat) (a : Addr) (sLen sCap m sz : Nat) (cs : List Value)
    (hu : P.underlying dT = some (.slice elem)) (hs : (P.info? elem).map (·.size) = some sz) (hm : Nat.min sLen dLen = m) (hn : cs.length = m * sz)
    (hsrc : ∀ j v, cs[j]? = some v → w.cell? (a.add j) = some v) (hc : ∀ j, j < cs.length → (w.cell? ⟨b, o + j, none⟩).isSome = true) (hf : ∀ j, j < cs.length → w.frozen? ⟨b, o + j, none⟩ = false) (h1 : ∀ v ∈ cs, v.oneCell' = true) :
    (Builtin.copy_ #[dT, sT] ty #[.slice (some ⟨b, o, none⟩) dLen dCap, .slice (some a) sLen sCap]).run P w = .ok (goInt m) (w.setCells b o cs) := by
  have hl := run_loadCells_list (P := P) w a cs hsrc
  have hst := run_storeCells_cells (P := P) b o cs 0 w (by simpa using hc) (by simpa using hf) h1
  rw [hn] at hl
  cases hq : P.info? elem with
  | none => simp [hq] at hs
  | some i =>
    have hi : i.size = sz := by simpa [hq] using hs
    simp [Builtin.copy_, run_underlying hu, Builtin.lenOf, Builtin.firstCells, sizeOf, typeInfo, hq, hi, hm, hl, hst]
theorem run_copy_nought {P : Program} (w : World) (dT sT ty elem : TypeId) (d : Option Addr) (dLen dCap sz : Nat) (hu : P.underlying dT = some (.slice elem)) (hs : (P.info? elem).map (·.size) = some sz) :
    (Builtin.copy_ #[dT, sT] ty #[.slice d dLen dCap, .slice none 0 0]).run P w = .ok (goInt 0) w := by
  cases hq : P.info? elem with
  | none => simp [hq] at hs
  | some i => cases d <;> simp [Builtin.copy_, run_underlying hu, Builtin.lenOf, Builtin.firstCells, sizeOf, typeInfo, hq, storeCells]
theorem setCells_block {b : Nat} {t : TypeId} : ∀ (cs : List Value) (o : Nat) (w : World) (c : Array Value), w.heap[b]? = some (.cells c t) → o + cs.length ≤ c.size →
    (∃ c', (w.setCells b o cs).heap[b]? = some (.cells c' t) ∧ c'.size = c.size ∧ ∀ j, c'[j]? = if o ≤ j ∧ j < o + cs.length then cs[j - o]? else c[j]?) ∧ Kept b w (w.setCells b o cs)
  | [], o, w, c, h, _ => ⟨⟨c, h, rfl, fun j => by rw [if_neg (by simp)]⟩, Kept.refl _ _⟩
  | v :: r, o, w, c, h, hl => by
    have h1 : (w.setCell ⟨b, o, none⟩ v).heap[b]? = some (.cells (c.setIfInBounds o v) t) := by simp [World.setCell, Array.getElem?_modify, h]
    simp only [List.length_cons] at hl
    obtain ⟨⟨c', e1, e2, e3⟩, hk⟩ := setCells_block r (o + 1) (w.setCell ⟨b, o, none⟩ v) (c.setIfInBounds o v) h1 (by simp; omega)
    refine ⟨⟨c', e1, by rw [e2]; simp, fun j => ?_⟩, ((Kept.refl b w).setCell o v).trans hk⟩
    rw [e3 j]
    by_cases hj : j = o
    · subst hj
      rw [if_neg (by omega), if_pos (by simp), Nat.sub_self, List.getElem?_cons_zero, Array.getElem?_setIfInBounds_self_of_lt (by omega)]
    · by_cases hj2 : o + 1 ≤ j ∧ j < o + 1 + r.length
      · rw [if_pos hj2, if_pos (by simp; omega)]
        rw [show j - o = (j - (o + 1)) + 1 by omega, List.getElem?_cons_succ]
      · rw [if_neg hj2, if_neg (by simp; omega), Array.getElem?_setIfInBounds_ne (fun h => hj h.symm)]
theorem els_one (f : Nat → Nat) (n : Nat) : ∀ u ∈ els f n, u.oneCell' = true := by
  intro u hu
  unfold els at hu
  simp only [List.mem_map] at hu
  obtain ⟨t, _, rfl⟩ := hu
  rfl
theorem els_at (f : Nat → Nat) (n j : Nat) (v : Value) (h : (els f n)[j]? = some v) : j / 4 < n ∧ j % 4 < 4 ∧ v = .int .u64 ((limb (j % 4) (f (j / 4)) : Nat) : Int) := by
  have hl : j < n * 4 := by
    have := (List.getElem?_eq_some_iff.1 h).1
    rwa [els_len] at this
  have h2 := els_get f n (j / 4) (j % 4) (by omega) (by omega)
  rw [show j / 4 * 4 + j % 4 = j by omega, h] at h2
  exact ⟨by omega, by omega, Option.some.inj h2⟩
/-- copy into a list of elements that is there. -/
theorem copyE_run (w : World) (ty : TypeId) (g N n : Nat) (F f : Nat → Nat) (u : Value) (hu : Es w u n f) (hn : n ≤ N) (hB : BlkE w g N F) :
    ∃ w', (Builtin.copy_ #[22, 22] ty #[.slice (some ⟨g, 0, none⟩) N N, u]).run Tryz.prog w = .ok (.int .i64 (n : Int)) w' ∧ BlkE w' g N (fun i => if i < n then f i else F i) ∧ Kept g w w' := by
  have hsz : (Tryz.prog.info? 25).map (·.size) = some 4 := by kernel_rfl
  rcases hu with ⟨rfl, rfl⟩ | ⟨b, ob, c, rfl, hnc, hcm, hlt, hcell⟩
  · exact ⟨w, run_copy_nought (P := Tryz.prog) w 22 22 ty 25 (some ⟨g, 0, none⟩) N N 4 Tryz.underlying22 hsz, hB.congr (fun i _ => by rw [if_neg (by omega)]), Kept.refl _ _⟩
  · have hrun := run_copy_wide (P := Tryz.prog) w 22 22 ty 25 g 0 N N ⟨b, ob, none⟩ n c n 4 (els f n) Tryz.underlying22 hsz (Nat.min_eq_left hn) (els_len f n) ?_ ?_ ?_ (els_one f n)
    · obtain ⟨cc, hc, hcs, hcf⟩ := hB
      obtain ⟨⟨c', e1, e2, e3⟩, hk⟩ := setCells_block (els f n) 0 w cc hc (by rw [els_len, hcs]; omega)
      refine ⟨_, hrun, ⟨c', e1, by rw [e2, hcs], fun i hi j hj => ?_⟩, hk⟩
      rw [e3, els_len]
      by_cases hin : i < n
      · rw [if_pos (by omega), Nat.sub_zero, els_get f n i j hin hj]; dsimp only; rw [if_pos hin]
      · rw [if_neg (by omega), hcf i hi j hj]; dsimp only; rw [if_neg hin]
    · intro j v hj
      obtain ⟨h1, h2, rfl⟩ := els_at f n j v hj
      have hadd : (⟨b, ob, none⟩ : Addr).add j = ⟨b, ob + j, none⟩ := by unfold Addr.add; split <;> simp_all
      have := hcell (j / 4) h1 (j % 4) h2
      rw [hadd, show ob + j = ob + j / 4 * 4 + j % 4 by omega]
      exact this
    · intro j hj
      rw [els_len] at hj
      have := hB.cell (j / 4) (by omega) (j % 4) (by omega)
      rw [Nat.zero_add, show j = j / 4 * 4 + j % 4 by omega, this]
      rfl
    · intro j _
      exact hB.frozen _
end Go.Proofs.YtfdddpndjmookaaGreatDoor

/- domain: check, checkShift, part, Points, Values. -/
namespace Go.Proofs.YtfdddpndjmookaaGreatDoor
open Go.RowKit

set_option maxHeartbeats 2000000 in
theorem dcheck_gen (s k E1 E2 : Int) (m : Nat) (HM : ∀ w, GlobD w → Calls Tryz.prog 15 #[.int .i64 s] w fun e w' => e = .returned (.tuple #[.agg #[.int .u64 ((limb 0 (m) : Nat) : Int), .int .u64 ((limb 1 (m) : Nat) : Int), .int .u64 ((limb 2 (m) : Nat) : Int), .int .u64 ((limb 3 (m) : Nat) : Int)], .int .i64 E1]) ∧ Below w.heap.size w w') (w : World) (hg : GlobD w)
    (h : E1 ≠ 0 ∧ E2 = E1 ∨ E1 = 0 ∧ (k < 0 ∨ 9 < k) ∧ E2 = 60 ∨ E1 = 0 ∧ 0 ≤ k ∧ k ≤ 9 ∧ E2 = 0) :
    Calls Tryz.prog 24 #[.int .i64 s, .int .i64 k] w fun e w' => e = .returned (.int .i64 E2) ∧ Below w.heap.size w w' := by
  have HMM : Hid (∀ w, GlobD w → _) := HM
  have HG : Hid (GlobD w) := hg
  have HH : Hid (E1 ≠ 0 ∧ E2 = E1 ∨ E1 = 0 ∧ (k < 0 ∨ 9 < k) ∧ E2 = 60 ∨ E1 = 0 ∧ 0 ≤ k ∧ k ≤ 9 ∧ E2 = 0) := h
  clear HM hg h
  go_enter Tryz.func24, Tryz.ntmps24
  go_wp2_with fail
  refine (HMM.out _ HG.out).mono ?_
  rintro e w1 ⟨rfl, hb1⟩
  have hb2 := bAlloc hb1 (.cells #[.int .u64 ((limb 0 (m) : Nat) : Int), .int .u64 ((limb 1 (m) : Nat) : Int), .int .u64 ((limb 2 (m) : Nat) : Int), .int .u64 ((limb 3 (m) : Nat) : Int)] 25)
  clear hb1
  rcases HH.out with ⟨h1, h2⟩ | ⟨h1, h2, h3⟩ | ⟨h1, h2, h3, h4⟩
  · clear HH
    subst h2
    go_wp2
    go_ret
    exact ⟨rfl, hb2⟩
  · clear HH
    subst h1 h3
    rcases h2 with h2 | h2
    · go_wp2
      go_ret
      exact ⟨rfl, hb2⟩
    · have h0 : ¬ k < 0 := by omega
      go_wp2
      go_ret
      exact ⟨rfl, hb2⟩
  · clear HH
    subst h1 h4
    have h0 : ¬ k < 0 := by omega
    have h9 : ¬ 9 < k := by omega
    go_wp2
    go_ret
    exact ⟨rfl, hb2⟩
/-- The error of a sort and a size. -/
def chkE (s k : Int) : Int := if s < 0 ∨ 4 ≤ s then 20 else if k < 0 ∨ 9 < k then 60 else 0
theorem dcheck_any (s k : Int) (w : World) (hg : GlobD w) : Calls Tryz.prog 24 #[.int .i64 s, .int .i64 k] w fun e w' => e = .returned (.int .i64 (chkE s k)) ∧ Below w.heap.size w w' := by
  by_cases hs : s < 0 ∨ 4 ≤ s
  · refine dcheck_gen s k 20 (chkE s k) 0 (fun w _ => ?_) w hg (Or.inl ⟨by decide, by unfold chkE; rw [if_pos hs]⟩)
    rw [limb_zero, limb_zero, limb_zero, limb_zero]
    exact fModulus_out s hs w
  · obtain ⟨t, rfl⟩ : ∃ t : Nat, s = (t : Int) := ⟨s.toNat, by omega⟩
    refine dcheck_gen (t : Int) k 0 (chkE t k) (modN t) (fun w hg => fModulus_any t (by omega) w hg.1) w hg (Or.inr ?_)
    unfold chkE
    rw [if_neg hs]
    by_cases hk : k < 0 ∨ 9 < k
    · exact Or.inl ⟨rfl, hk, if_pos hk⟩
    · exact Or.inr ⟨rfl, by omega, by omega, if_neg hk⟩
/-- The error of a shift too. -/
def shfE (s k : Int) (x : Nat) : Int := if chkE s k ≠ 0 then chkE s k else if x % modN s.toNat = 0 then 10 else 0
end Go.Proofs.YtfdddpndjmookaaGreatDoor

/- slices.Reverse of elements; domain: part, Points, Vanish. -/
namespace Go.Proofs.YtfdddpndjmookaaGreatDoor
open Go.RowKit

/-- A list of which n places from e0 on are turned round as far as t. -/
def rvF (F : Nat → Nat) (e0 n t i : Nat) : Nat := if e0 ≤ i ∧ i < e0 + n ∧ (i - e0 < t ∨ n - 1 - (i - e0) < t) then F (e0 + (n - 1 - (i - e0))) else F i
theorem two_lt (s k : Nat) (hk : k ≤ 9) : 2 ^ k < modN s := Nat.lt_of_le_of_lt (pow9 hk).2 (by
  match s with
  | 0 => decide
  | 1 => decide
  | 2 => decide
  | _ + 3 => show 512 < modN 3; decide)
set_option maxHeartbeats 2000000 in
/-- part: 1 by 2^k. -/
theorem dpart_any (s k : Nat) (hs : s < 4) (hk : k ≤ 9) (w : World) (hg : GlobD w) :
    Calls Tryz.prog 46 #[.int .i64 (s : Int), .int .i64 (k : Int)] w fun e w' => (∃ q, e = .returned (.agg #[.int .u64 ((limb 0 (q) : Nat) : Int), .int .u64 ((limb 1 (q) : Nat) : Int), .int .u64 ((limb 2 (q) : Nat) : Int), .int .u64 ((limb 3 (q) : Nat) : Int)]) ∧ q < modN s ∧ q * 2 ^ k % modN s = 1) ∧ Below w.heap.size w w' := by
  have IV := fun w hg => fInv_any s (2 ^ k) hs (Nat.lt_trans (two_lt s k hk) (modN_good s).lt.2.2) w hg
  have h2 := two_lt s k hk
  have h9 := pow9 hk
  obtain ⟨N, eN⟩ : ∃ N, N = 2 ^ k := ⟨_, rfl⟩
  rw [← eN] at IV h2 h9 ⊢
  rw [word_agg N (by omega)] at IV
  have HIV : Hid (∀ w, Glob w → _) := IV
  have hsh : (2 : Int) ^ k = (N : Int) := by rw [eN]; simp
  have hk0 : ¬ (k : Int) < 0 := by omega
  have hwr : IntKind.u64.wrap (N : Int) = (N : Int) := by simp [IntKind.wrap, IntKind.bits, IntKind.signed]; omega
  have HN0 : Hid (N % modN s = N ∧ N ≠ 0) := ⟨Nat.mod_eq_of_lt h2, by omega⟩
  clear IV eN
  go_enter Tryz.func46, Tryz.ntmps46
  go_upto_region 1 with fail
  obtain ⟨w0, hw0⟩ : ∃ z : World, z = w.alloc (.cells #[.int .u64 0, .int .u64 0, .int .u64 0, .int .u64 0] 25) := ⟨_, rfl⟩
  obtain ⟨N4, e4⟩ : ∃ N, N = w.heap.size := ⟨_, rfl⟩
  have br0 : Blk w0 25 N4 (fun _ => 0) := by rw [hw0]; exact Blk.newAt _ _ _ (fun _ => 0) e4
  have hb0 : Below w.heap.size w w0 := by rw [hw0]; exact bAlloc (Below.refl _ _) _
  rw [← hw0, ← e4]
  have l4 : w.heap.size ≤ N4 := by omega
  clear hw0 e4
  have HG0 : Hid (GlobD w0) := hg.below hb0
  go_wp2_with fail
  refine (HIV.out _ HG0.out.1).mono ?_
  rintro e w1 ⟨⟨hz, _⟩ | ⟨_, q, hq, hq1, rfl⟩, hb1⟩
  · exact absurd (HN0.out.1.symm.trans hz) HN0.out.2
  · rw [HN0.out.1] at hq1
    have HQ : Hid (q < modN s ∧ q * N % modN s = 1) := ⟨hq, hq1⟩
    clear hq hq1
    have br1 := br0.belowAll hb1
    have hbw1 := bStep hb0 hb1
    obtain ⟨w2, hw2⟩ : ∃ z : World, z = w1.alloc (.cells #[.int .u64 ((limb 0 (q) : Nat) : Int), .int .u64 ((limb 1 (q) : Nat) : Int), .int .u64 ((limb 2 (q) : Nat) : Int), .int .u64 ((limb 3 (q) : Nat) : Int)] 25) := ⟨_, rfl⟩
    obtain ⟨N5, e5⟩ : ∃ N, N = w1.heap.size := ⟨_, rfl⟩
    have br2 : Blk w2 25 N4 (fun _ => 0) := by rw [hw2]; exact br1.alloc _
    have bq2 : Blk w2 25 N5 (fun i => limb i q) := by rw [hw2]; exact Blk.newAt _ _ _ (fun i => limb i q) e5
    have hbw2 : Below w.heap.size w w2 := by rw [hw2]; exact bAlloc hbw1 _
    have n45 : N4 ≠ N5 := by have := br1.lt; omega
    go_upto_region 2 with fail
    rw [← hw2, ← e5]
    clear hw2 e5 br0 br1 hb0 hb1 hbw1
    have cq := bq2.cell; have cr := br2.cell; have fr := br2.frozen
    have bs := br2.set4 (fun i => limb i q)
    have cs := bs.cell
    have hb3 := bSet4 hbw2 l4 (.int .u64 ((limb 0 q : Nat) : Int)) (.int .u64 ((limb 1 q : Nat) : Int)) (.int .u64 ((limb 2 q : Nat) : Int)) (.int .u64 ((limb 3 q : Nat) : Int))
    have HB3 : Hid (Below _ _ _) := hb3
    clear hb3
    go_wp2
    refine bodyPost_ret (v := .agg #[.int .u64 ((limb 0 (q) : Nat) : Int), .int .u64 ((limb 1 (q) : Nat) : Int), .int .u64 ((limb 2 (q) : Nat) : Int), .int .u64 ((limb 3 (q) : Nat) : Int)]) (by simp [results, Tryz.results46, go_sem, cs]) rfl ?_
    exact ⟨⟨q, rfl, HQ.out.1, HQ.out.2⟩, HB3.out⟩
set_option maxHeartbeats 2000000 in
theorem dPts_err (s k : Int) (hE : chkE s k ≠ 0) (w : World) (hg : GlobD w) : Calls Tryz.prog 9 #[.int .i64 s, .int .i64 k] w fun e w' => e = .returned (.tuple #[.slice none 0 0, .int .i64 (chkE s k)]) ∧ Below w.heap.size w w' := by
  have HC := dcheck_any s k w hg
  obtain ⟨c, ec⟩ : ∃ c, c = chkE s k := ⟨_, rfl⟩
  rw [← ec] at HC hE ⊢
  clear ec
  go_enter Tryz.func9, Tryz.ntmps9
  go_wp2_with fail
  refine HC.mono ?_
  rintro e w1 ⟨rfl, hb1⟩
  go_wp2
  go_ret2
  exact ⟨rfl, hb1⟩
theorem chk_in {s k : Nat} (hs : s < 4) (hk : k ≤ 9) : chkE (s : Int) (k : Int) = 0 := by
  unfold chkE
  rw [if_neg (by omega), if_neg (by omega)]
set_option maxHeartbeats 2000000 in
theorem dPts_in (s k : Nat) (hs : s < 4) (hk : k ≤ 9) (w : World) (hg : GlobD w) : Calls Tryz.prog 9 #[.int .i64 (s : Int), .int .i64 (k : Int)] w fun e w' => (∃ g, e = .returned (.tuple #[.slice (some ⟨g, 0, none⟩) (2 ^ k) (2 ^ k), .int .i64 0]) ∧ w.heap.size ≤ g ∧ BlkE w' g (2 ^ k) (fun i => expP s (rootP s k) i)) ∧ Below w.heap.size w w' := by
  have HC := dcheck_any (s : Int) (k : Int) w hg
  rw [chk_in hs hk] at HC
  have HP : Hid (∀ w, GlobD w → _) := fun w hg => dpoints_any s k hs hk w hg
  have HG : Hid (GlobD w) := hg
  obtain ⟨N, eN⟩ : ∃ N, N = 2 ^ k := ⟨_, rfl⟩
  rw [← eN] at HP ⊢
  clear eN hg
  go_enter Tryz.func9, Tryz.ntmps9
  go_wp2_with fail
  refine HC.mono ?_
  rintro e w1 ⟨rfl, hb1⟩
  go_wp2_with fail
  refine (HP.out _ (HG.out.below hb1)).mono ?_
  rintro e w2 ⟨⟨g, rfl, lg, bg⟩, hb2⟩
  go_wp2
  go_ret2
  exact ⟨⟨g, rfl, Nat.le_trans hb1.size lg, bg⟩, bStep hb1 hb2⟩
end Go.Proofs.YtfdddpndjmookaaGreatDoor

