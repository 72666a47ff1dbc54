/- poly: zeros, Zeros. -/
import Derived.Test.YtfahhohhpjlhnaaDoorPD1
import Derived.Deep.LoopGhost
namespace Go.Proofs.YtfahhohhpjlhnaaDoor
open Go.RowKit
attribute [local go_sem] semAt_rd

/-- One factor more is taken in, from the highest coefficient down to i. -/
def zst (s less : Nat) (old : Nat → Nat) (n i t : Nat) : Nat :=
  if t < i ∨ n + 1 < t then old t else if t = i then (if t = n + 1 then old t else mulP s less (old t)) else addP s (if t = n + 1 then old t else mulP s less (old t)) (old (t - 1))
/-- The product of X - x over the first k of xs. -/
def zrs (s : Nat) (xs : Nat → Nat) : Nat → Nat → Nat
  | 0, t => if t = 0 then 1 else 0
  | k + 1, t => zst s (subP s 0 (xs k)) (zrs s xs k) k 0 t
theorem zrs_M (s : Nat) (xs : Nat → Nat) : ∀ k t, zrs s xs k t < 115792089237316195423570985008687907853269984665640564039457584007913129639936
  | 0, t => by unfold zrs; split <;> decide
  | k + 1, t => by
    unfold zrs zst
    split
    · exact zrs_M s xs k t
    · split
      · split
        · exact zrs_M s xs k t
        · exact mulP_M _ _ _
      · exact addP_M _ _ _
theorem zst_step (s less : Nat) (old : Nat → Nat) (n i : Nat) (hi : i < n + 1) (t : Nat) :
    (if t = i then mulP s less (old i) else if t = i + 1 then addP s (zst s less old n (i + 1) (i + 1)) (old i) else zst s less old n (i + 1) t) = zst s less old n i t := by
  unfold zst
  by_cases h1 : t = i
  · subst h1
    rw [if_pos rfl, if_neg (by omega), if_pos rfl, if_neg (by omega)]
  · rw [if_neg h1]
    by_cases h2 : t = i + 1
    · subst h2
      rw [if_pos rfl, if_neg (show ¬ (i + 1 < i + 1 ∨ n + 1 < i + 1) by omega), if_pos rfl, if_neg (show ¬ (i + 1 < i ∨ n + 1 < i + 1) by omega), if_neg h1, Nat.add_sub_cancel]
    · rw [if_neg h2]
      by_cases h3 : t < i ∨ n + 1 < t
      · rw [if_pos h3, if_pos (by omega)]
      · rw [if_neg h3, if_neg (by omega), if_neg h2, if_neg h1]
theorem zst_top (s less : Nat) (old : Nat → Nat) (n t : Nat) : zst s less old n (n + 1) t = old t := by
  unfold zst
  by_cases h : t < n + 1 ∨ n + 1 < t
  · rw [if_pos h]
  · rw [if_neg h, if_pos (by omega), if_pos (by omega)]
theorem zst_low (s less : Nat) (old : Nat → Nat) (n i : Nat) : zst s less old n (i + 1) i = old i := by
  unfold zst
  rw [if_pos (by omega)]
theorem zst_M (s less : Nat) (old : Nat → Nat) (n i t : Nat) (h : ∀ t, old t < 115792089237316195423570985008687907853269984665640564039457584007913129639936) : zst s less old n i t < 115792089237316195423570985008687907853269984665640564039457584007913129639936 := by
  unfold zst
  split
  · exact h t
  · split
    · split
      · exact h t
      · exact mulP_M _ _ _
    · exact addP_M _ _ _
/-- Marks of ranges over functions that are done: all below H, no two of them one. -/
def Marks (H : Nat) : List Deferred → World → Prop
  | [], _ => True
  | d :: ds, W => ∃ D, D < H ∧ d = { target := .collected D, args := #[] } ∧ W.heap[D]? = some (.deferred (some [])) ∧ Marks D ds W
/-- The blocks of marks. -/
def markOf (d : Deferred) : Nat := match d.target with | .collected D => D | _ => 0
theorem Marks.mono : ∀ {ds : List Deferred} {H K : Nat} {W : World}, H ≤ K → Marks H ds W → Marks K ds W
  | [], _, _, _, _, _ => trivial
  | _ :: _, _, _, _, h, ⟨D, h1, h2⟩ => ⟨D, Nat.lt_of_lt_of_le h1 h, h2⟩
theorem Marks.keep : ∀ {ds : List Deferred} {H : Nat} {W W' : World}, (∀ d, d ∈ ds → W'.heap[markOf d]? = W.heap[markOf d]?) → Marks H ds W → Marks H ds W'
  | [], _, _, _, _, _ => trivial
  | d :: ds, _, _, _, hk, ⟨D, h1, h2, h3, h4⟩ => ⟨D, h1, h2, by
      have := hk d (List.mem_cons_self ..)
      rw [h2] at this
      exact Eq.trans this h3, Marks.keep (fun e he => hk e (List.mem_cons_of_mem _ he)) h4⟩
theorem Marks.lt : ∀ {ds : List Deferred} {H : Nat} {W : World}, Marks H ds W → ∀ d, d ∈ ds → markOf d < H
  | [], _, _, _, d, hd => absurd hd (by simp)
  | e :: ds, H, W, ⟨D, h1, h2, h3, h4⟩, d, hd => by
    rcases List.mem_cons.1 hd with rfl | hd
    · rw [h2]; exact h1
    · exact Nat.lt_trans (Marks.lt h4 d hd) h1
theorem Marks.below {ds : List Deferred} {H n : Nat} {W W' : World} (h : Marks H ds W) (hb : Below n W W') (hn : H ≤ n) : Marks H ds W' :=
  h.keep (fun d hd => hb.block _ (by have := h.lt d hd; omega))
theorem Marks.kept {ds : List Deferred} {H g : Nat} {W W' : World} (h : Marks H ds W) (hk : Kept g W W') (hg : ∀ d, d ∈ ds → markOf d ≠ g) (hs : H ≤ W.heap.size) : Marks H ds W' :=
  h.keep (fun d hd => hk.block _ (by have := h.lt d hd; omega) (hg d hd))
/-- The function is left: all marks are taken. -/
theorem Marks.leave {fn : Func} {tmps : Array Value} {R : Ending → World → Prop} {L : Nat} {n : Nat} : ∀ {ds : List Deferred} {H : Nat} {W : World}, Marks H ds W → (∀ d, d ∈ ds → L ≤ markOf d) → (∀ W', Below L W W' → LeavesIn Fence.wide n Tryd.prog fn tmps R [] .returning W') → LeavesInM Fence.wide n Tryd.prog fn tmps R ds .returning W
  | [], _, W, _, _, h => h W (Below.refl _ _)
  | d :: ds, H, W, ⟨D, h1, h2, h3, h4⟩, hL, h => by
    refine ⟨by simp, .inl ⟨D, _, by rw [h2], run_takeDeferred h3, ?_⟩⟩
    have hD : L ≤ D := by
      have := hL d (List.mem_cons_self ..)
      rw [h2] at this
      exact this
    have hb := put_below (H := L) (w := W) hD (.deferred none)
    refine Marks.leave (h4.keep (fun e he => ?_)) (fun e he => hL e (List.mem_cons_of_mem _ he)) (fun W' hb' => h W' (hb.trans hb'))
    exact World.putObj_heap_other (by have := h4.lt e he; omega)
set_option maxHeartbeats 8000000 in
set_option maxRecDepth 100000 in
/-- poly.zeros. -/
theorem zeros_any (s n cn : Nat) (oa : Option Addr) (xs : Nat → Nat) (hs : s < 4) (hn : n ≤ 100000) (hf : ∀ i, i < n → xs i < 115792089237316195423570985008687907853269984665640564039457584007913129639936) (w : World) (hg : Glob w) (hv : Es w (.slice oa n cn) n xs) :
    Calls Tryd.prog 16 #[.int .i64 (s : Int), .slice oa n cn] w fun e w' => (∃ G, e = .returned (.slice (some ⟨G, 0, none⟩) (n + 1) (n + 1)) ∧ w.heap.size ≤ G ∧ BlkE w' G (n + 1) (zrs s xs n)) ∧ Below w.heap.size w w' := by
  obtain ⟨i0, hi, hz0, hz1, hz2⟩ := elemInfo
  have HI := (show Hid _ from hi); have HZ := (show Hid _ from And.intro hz0 (And.intro hz1 hz2)); clear hi hz0 hz1 hz2
  have HF := fld_in s hs
  have HADD : Hid (∀ a b, a < 115792089237316195423570985008687907853269984665640564039457584007913129639936 → b < 115792089237316195423570985008687907853269984665640564039457584007913129639936 → ∀ w, Glob w → Calls Tryd.prog 32 #[.int .i64 (s : Int), .agg #[.int .u64 ((limb 0 (a) : Nat) : Int), .int .u64 ((limb 1 (a) : Nat) : Int), .int .u64 ((limb 2 (a) : Nat) : Int), .int .u64 ((limb 3 (a) : Nat) : Int)], .agg #[.int .u64 ((limb 0 (b) : Nat) : Int), .int .u64 ((limb 1 (b) : Nat) : Int), .int .u64 ((limb 2 (b) : Nat) : Int), .int .u64 ((limb 3 (b) : Nat) : Int)]] w fun e w' => e = .returned (.agg #[.int .u64 ((limb 0 (addP s a b) : Nat) : Int), .int .u64 ((limb 1 (addP s a b) : Nat) : Int), .int .u64 ((limb 2 (addP s a b) : Nat) : Int), .int .u64 ((limb 3 (addP s a b) : Nat) : Int)]) ∧ Below w.heap.size w w') := HF.2.2.2.2.1
  have HMUL : Hid (∀ a b, a < 115792089237316195423570985008687907853269984665640564039457584007913129639936 → b < 115792089237316195423570985008687907853269984665640564039457584007913129639936 → ∀ w, Glob w → Calls Tryd.prog 23 #[.int .i64 (s : Int), .agg #[.int .u64 ((limb 0 (a) : Nat) : Int), .int .u64 ((limb 1 (a) : Nat) : Int), .int .u64 ((limb 2 (a) : Nat) : Int), .int .u64 ((limb 3 (a) : Nat) : Int)], .agg #[.int .u64 ((limb 0 (b) : Nat) : Int), .int .u64 ((limb 1 (b) : Nat) : Int), .int .u64 ((limb 2 (b) : Nat) : Int), .int .u64 ((limb 3 (b) : Nat) : Int)]] w fun e w' => e = .returned (.agg #[.int .u64 ((limb 0 (mulP s a b) : Nat) : Int), .int .u64 ((limb 1 (mulP s a b) : Nat) : Int), .int .u64 ((limb 2 (mulP s a b) : Nat) : Int), .int .u64 ((limb 3 (mulP s a b) : Nat) : Int)]) ∧ Below w.heap.size w w') := HF.2.2.2.2.2
  have HNEG : Hid (∀ a, a < 115792089237316195423570985008687907853269984665640564039457584007913129639936 → ∀ w, Glob w → Calls Tryd.prog 36 #[.int .i64 (s : Int), .agg #[.int .u64 ((limb 0 (a) : Nat) : Int), .int .u64 ((limb 1 (a) : Nat) : Int), .int .u64 ((limb 2 (a) : Nat) : Int), .int .u64 ((limb 3 (a) : Nat) : Int)]] w fun e w' => e = .returned (.agg #[.int .u64 ((limb 0 (subP s 0 a) : Nat) : Int), .int .u64 ((limb 1 (subP s 0 a) : Nat) : Int), .int .u64 ((limb 2 (subP s 0 a) : Nat) : Int), .int .u64 ((limb 3 (subP s 0 a) : Nat) : Int)]) ∧ Below w.heap.size w w') := fun a ha w hg => fNeg_any s a hs ha w hg
  have HG : Hid (Glob w) := hg
  have HV : Hid (Es w (.slice oa n cn) n xs) := hv
  have HFM : Hid (∀ i, i < n → xs i < 115792089237316195423570985008687907853269984665640564039457584007913129639936) := hf
  obtain ⟨N, eN⟩ : ∃ N, N = n + 1 := ⟨_, rfl⟩
  rw [← eN]
  have hNe : (n : Int) + 1 = (N : Int) := by omega
  have HNN : Hid (N = n + 1) := eN
  have hN1 : N ≤ 100001 := by omega
  have hN0 : (0 : Int) < (N : Int) := by omega
  have hwr : IntKind.i64.wrap (N : Int) = (N : Int) := wrap_i64_nat N (by omega)
  clear HF hg hv hf eN
  refine (callsIn_wide (n := 4)).1 (callsIn_of_wp_marks Tryd.func16 rfl trivial (wpIn_wide.2 ?_) rfl)
  simp only [Tryd.ntmps16, List.size_toArray, List.length_cons, List.length_nil, Nat.reduceAdd, Nat.reduceSub, Array.replicate_succ, Array.replicate_zero, List.push_toArray, List.append_toArray, List.nil_append, List.cons_append]
  go_upto_region 1 with fail
  obtain ⟨N2, e2⟩ : ∃ z, z = w.heap.size := ⟨_, rfl⟩
  obtain ⟨u0, hu0⟩ : ∃ z : World, z = w.alloc (.cells #[.int .i64 (s : Int)] 3) := ⟨_, rfl⟩
  have o2 : One1 u0 3 N2 (.int .i64 (s : Int)) := by rw [hu0, e2]; exact One1.new _ _ _
  have hb0 : Below w.heap.size w u0 := by rw [hu0]; exact bAlloc (Below.refl _ _) _
  rw [← hu0, ← e2]
  have l2 : w.heap.size ≤ N2 := by omega
  clear hu0 e2
  go_wp2_with (first
    | (at_make; refine wpList_make_full _ rfl _ _ 22 rfl u0.heap.size 33 i0 (.agg #[.int .u64 0, .int .u64 0, .int .u64 0, .int .u64 0]) 4 Tryd.underlying22 HI.out HZ.out.1 HZ.out.2.1 .i64 .i64 N N N rfl rfl rfl rfl ?c1 ?c2 (Nat.le_refl _) ?_)
    | go_in)
  case c1 => rw [HZ.out.2.2]; omega
  case c2 => unfold maxLen; omega
  intro u1 hown hgrow
  obtain ⟨G, eG⟩ : ∃ G, G = u0.heap.size := ⟨_, rfl⟩
  rw [← eG] at hown ⊢
  have bo1 : BlkE u1 G N (fun _ => 0) := (own_blkE (f := fun _ => 0) hown (fun i hi j hj => by rw [made_zero N (i * 4 + j) (by omega), limb_zero]; rfl)).1
  have hbe : Below u0.heap.size u0 u1 := (Below.refl _ u0).grown hgrow (Nat.le_refl _) (fun j hj => by cases hj)
  have hbw1 := bStep hb0 hbe
  have lu0 := hb0.size
  have o21 := o2.belowAll hbe
  have k2 := o2.lt
  have lG : w.heap.size ≤ G := by omega
  have n2G : N2 ≠ G := by omega
  have h2G : N2 < G := by omega
  clear hown hgrow hbe o2 hb0 lu0 eG
  go_upto_region 2 with fail
  obtain ⟨N5, e5⟩ : ∃ z, z = u1.heap.size := ⟨_, rfl⟩
  obtain ⟨u2, hu2⟩ : ∃ z : World, z = u1.alloc (.cells #[.slice (some ⟨G, 0, none⟩) N N] 22) := ⟨_, rfl⟩
  have o52 : One1 u2 22 N5 (.slice (some ⟨G, 0, none⟩) N N) := by rw [hu2, e5]; exact One1.new _ _ _
  have hb2 : Below u1.heap.size u1 u2 := by rw [hu2]; exact bAlloc (Below.refl _ _) _
  have bo2 := bo1.belowAll hb2; have o22 := o21.belowAll hb2; have hbw2 := bStep hbw1 hb2
  have lG1 := bo1.lt
  have n5G : N5 ≠ G := by omega
  have hG5 : G < N5 := by omega
  have n25 : N2 ≠ N5 := by have := o21.lt; omega
  try rw [← hu2, ← e5]
  have hN0' : 0 < N := by omega
  have o0 := bo2.cell 0 hN0' 0 (by decide); have o1 := bo2.cell 0 hN0' 1 (by decide); have o2 := bo2.cell 0 hN0' 2 (by decide); have o3 := bo2.cell 0 hN0' 3 (by decide)
  have fo := bo2.frozen
  obtain ⟨u3, hu3, bo3, hk3⟩ := bo2.put hN0' 1
  simp only [Nat.zero_mul, Nat.zero_add, Nat.add_zero, show ((limb 0 1 : Nat) : Int) = 1 from rfl, show ((limb 1 1 : Nat) : Int) = 0 from rfl, show ((limb 2 1 : Nat) : Int) = 0 from rfl, show ((limb 3 1 : Nat) : Int) = 0 from rfl] at hu3 o0 o1 o2 o3
  have c5 := o52.cell; have f5 := o52.frozen
  clear bo1 hbw1 hb2 hu2 o21 e5
  go_wp2_with fail
  have hbw3 : Below w.heap.size w u3 := bKept hbw2 lG hk3
  have o23 := o22.kept n2G hk3; have o53 := o52.kept n5G hk3
  have bo4 : BlkE u3 G N (zrs s xs 0) := bo3.congr (fun t _ => rfl)
  obtain ⟨H0, eH0⟩ : ∃ z, z = u3.heap.size := ⟨_, rfl⟩
  have HCH0 : Hid (w.heap.size ≤ N2 ∧ N2 < G ∧ G < N5 ∧ N5 < H0) := by
    show w.heap.size ≤ N2 ∧ N2 < G ∧ G < N5 ∧ N5 < H0
    have a1 := o53.lt
    exact ⟨l2, h2G, hG5, by omega⟩
  have HU3 : Hid (H0 = u3.heap.size) := eH0
  clear o0 o1 o2 o3 fo hu3 bo3 hk3 c5 f5 bo2 o22 o52 hbw2 n2G n5G n25 k2 lG1 l2 lG eH0 h2G hG5
  refine wp_loop_ghost_k (fun k a wr => ∃ (j : Nat) (v6 v7 v8 v21 v22 v23 v24 v25 v26 v27 v28 v29 v30 v31 v32 v54 : Value) (DD : List Deferred), j + k = n ∧ a = { tmps := #[.int .i64 (s : Int), .slice oa n cn, .pointer (some ⟨N2, 0, none⟩), undef, .slice none 0 0, .pointer (some ⟨N5, 0, none⟩), v6, v7, v8, undef, undef, .slice oa n cn, .int .i64 (n : Int), .int .i64 (N : Int), .slice (some ⟨G, 0, none⟩) N N, .slice (some ⟨G, 0, none⟩) N N, .agg #[.int .u64 1, .int .u64 0, .int .u64 0, .int .u64 0], .pointer (some ⟨G, 0, none⟩), .slice oa n cn, .int .i64 (n : Int), .int .i64 (j : Int), v21, v22, v23, v24, v25, v26, v27, v28, v29, v30, v31, v32, undef, undef, undef, undef, undef, undef, undef, undef, undef, undef, undef, undef, undef, undef, undef, undef, undef, undef, undef, undef, undef, v54, undef], defers := DD } ∧ (Below w.heap.size w wr ∧ One1 wr 3 N2 (.int .i64 (s : Int)) ∧ One1 wr 22 N5 (.slice (some ⟨G, 0, none⟩) N N) ∧ BlkE wr G N (zrs s xs j)) ∧ Marks wr.heap.size DD wr ∧ (∀ d, d ∈ DD → H0 ≤ markOf d) ∧ H0 ≤ wr.heap.size) n ?_ ?_
  · exact ⟨0, undef, undef, undef, undef, undef, undef, undef, undef, undef, undef, undef, undef, undef, undef, undef, undef, [], by omega, rfl, ⟨hbw3, o23, o53, bo4⟩, trivial, fun d hd => absurd hd (by simp), by rw [HU3.out]; exact Nat.le_refl _⟩
  · rintro k a wr ⟨j, v6, v7, v8, v21, v22, v23, v24, v25, v26, v27, v28, v29, v30, v31, v32, v54, DD, hjk, rfl, ⟨hbr, p2, p5, pG⟩, pM, pL, hH⟩ J K hJ hKK
    have HJK : Hid (j + k = n) := hjk
    have HPM : Hid (Marks wr.heap.size DD wr) := pM
    have HPL : Hid (∀ d, d ∈ DD → H0 ≤ markOf d) := pL
    have HHH : Hid (H0 ≤ wr.heap.size) := hH
    clear pM pL hH bo4 o23 o53 hbw3
    by_cases hlt : j < n
    · have hji : (j : Int) < (n : Int) := by omega
      clear hjk
      rcases HV.out.take with ⟨_, h0, _⟩ | ⟨ab, ao, rfl, _, _, lab, hc⟩
      · omega
      have HXM : Hid (xs j < 115792089237316195423570985008687907853269984665640564039457584007913129639936) := HFM.out j hlt
      have c0 : wr.cell? ⟨ab, ao + j * 4, none⟩ = _ := (hbr.cell (p := ⟨ab, ao + j * 4, none⟩) lab).trans (hc j hlt 0 (by decide)); have c1 : wr.cell? ⟨ab, ao + j * 4 + 1, none⟩ = _ := (hbr.cell (p := ⟨ab, ao + j * 4 + 1, none⟩) lab).trans (hc j hlt 1 (by decide)); have c2 : wr.cell? ⟨ab, ao + j * 4 + 2, none⟩ = _ := (hbr.cell (p := ⟨ab, ao + j * 4 + 2, none⟩) lab).trans (hc j hlt 2 (by decide)); have c3 : wr.cell? ⟨ab, ao + j * 4 + 3, none⟩ = _ := (hbr.cell (p := ⟨ab, ao + j * 4 + 3, none⟩) lab).trans (hc j hlt 3 (by decide))
      clear hc
      obtain ⟨z, ez⟩ : ∃ z, z = xs j := ⟨_, rfl⟩
      rw [← ez] at c0 c1 c2 c3 HXM
      have HZX : Hid (z = xs j) := ez
      clear ez
      go_upto_region 6 with fail
      obtain ⟨N7, e7⟩ : ∃ z, z = wr.heap.size := ⟨_, rfl⟩
      obtain ⟨w1, hw1⟩ : ∃ zz : World, zz = wr.alloc (.cells #[.int .u64 ((limb 0 (z) : Nat) : Int), .int .u64 ((limb 1 (z) : Nat) : Int), .int .u64 ((limb 2 (z) : Nat) : Int), .int .u64 ((limb 3 (z) : Nat) : Int)] 33) := ⟨_, rfl⟩
      have b71 : Blk w1 33 N7 (fun i => limb i z) := by rw [hw1]; exact Blk.newAt _ _ _ (fun i => limb i z) e7
      have hb1 : Below wr.heap.size wr w1 := by rw [hw1]; exact bAlloc (Below.refl _ _) _
      rw [← hw1, ← e7]
      have p21 := p2.belowAll hb1; have p51 := p5.belowAll hb1; have pG1 := pG.belowAll hb1; have hbr1 := bStep hbr hb1
      have r1 := hb1
      have s1 : wr.heap.size < w1.heap.size := by rw [hw1]; exact Nat.lt_of_lt_of_eq (Nat.lt_succ_self _) (Array.size_push ..).symm
      clear hw1 hb1 c0 c1 c2 c3 p2 p5 pG hbr e7
      have p2c := p21.cell; have b7c := b71.cell
      go_wp2_with fail
      refine (HNEG.out z HXM.out w1 (HG.out.below hbr1)).mono ?_
      rintro e w2 ⟨rfl, hb2⟩
      have p22 := p21.belowAll hb2; have p52 := p51.belowAll hb2; have pG2 := pG1.belowAll hb2; have hbr2 := bStep hbr1 hb2
      have s2 := hb2.size
      have r2 := bStep r1 hb2
      clear hb2 p21 p51 pG1 hbr1 p2c b7c b71
      obtain ⟨less, el⟩ : ∃ zz, zz = subP s 0 z := ⟨_, rfl⟩
      rw [← el]
      have HLE : Hid (less = subP s 0 (xs j)) := by show less = _; rw [el, HZX.out]
      have HLM : Hid (less < 115792089237316195423570985008687907853269984665640564039457584007913129639936) := by show less < _; rw [el]; exact subP_M _ _ _
      clear el
      go_upto_region 7 with fail
      obtain ⟨N8, e8⟩ : ∃ z, z = w2.heap.size := ⟨_, rfl⟩
      obtain ⟨w3, hw3⟩ : ∃ zz : World, zz = w2.alloc (.cells #[.int .u64 ((limb 0 (less) : Nat) : Int), .int .u64 ((limb 1 (less) : Nat) : Int), .int .u64 ((limb 2 (less) : Nat) : Int), .int .u64 ((limb 3 (less) : Nat) : Int)] 33) := ⟨_, rfl⟩
      have b83 : Blk w3 33 N8 (fun i => limb i less) := by rw [hw3]; exact Blk.newAt _ _ _ (fun i => limb i less) e8
      have hb3 : Below w2.heap.size w2 w3 := by rw [hw3]; exact bAlloc (Below.refl _ _) _
      rw [← hw3, ← e8]
      have p23 := p22.belowAll hb3; have p53 := p52.belowAll hb3; have pG3 := pG2.belowAll hb3; have hbr3 := bStep hbr2 hb3
      have l8 : wr.heap.size < N8 := by omega
      have r3 := bStep r2 hb3
      clear hw3 hb3 p22 p52 pG2 hbr2 e8 s1 s2
      obtain ⟨q, eq⟩ : ∃ q, q = j + 1 := ⟨_, rfl⟩
      have HQ : Hid (q = j + 1) := eq
      have hq1 : (j : Int) + 1 = (q : Int) := by omega
      have hqw : IntKind.i64.wrap (q : Int) = (q : Int) := wrap_i64_nat q (by omega)
      have hq2 : (q : Int) ≤ (N : Int) := by have := HNN.out; omega
      have hq0 : (0 : Int) ≤ (q : Int) := by omega
      have p5c := p53.cell
      clear eq
      go_wp2_with fail
      refine (bwd_any (some ⟨G, 0, none⟩) q N _).mono ?_
      rintro e w' ⟨rfl, rfl⟩
      clear hq1 hqw hq2 hq0 p5c
      obtain ⟨NB, eB⟩ : ∃ z, z = w3.heap.size := ⟨_, rfl⟩
      obtain ⟨w0, hw0⟩ : ∃ z : World, z = w3.alloc (.cells #[.slice (some ⟨G, 0, none⟩) q N] 22) := ⟨_, rfl⟩
      have oB : One1 w0 22 NB (.slice (some ⟨G, 0, none⟩) q N) := by rw [hw0]; exact One1.newAt _ _ _ eB
      have hb0 : Below w3.heap.size w3 w0 := by rw [hw0]; exact bAlloc (Below.refl _ _) _
      have o2 := p23.belowAll hb0; have o5 := p53.belowAll hb0; have o8 := b83.belowAll hb0; have hbw0 := bStep hbr3 hb0
      have oG : BlkE w0 G N (zst s less (zrs s xs j) j q) := (pG3.belowAll hb0).congr (fun t _ => by rw [HQ.out]; exact zst_top _ _ _ _ _)
      go_wp2_with fail
      rw [← hw0, ← eB]
      have k8 := b83.lt; have kB := oB.lt
      have lhw : w.heap.size ≤ w0.heap.size := hbw0.size
      have hch0 := HCH0.out; have hhh := HHH.out
      have HCH : Hid (w.heap.size ≤ N2 ∧ N2 < G ∧ G < N5 ∧ N5 < N8 ∧ N8 < NB ∧ NB < w0.heap.size) := by
        show w.heap.size ≤ N2 ∧ N2 < G ∧ G < N5 ∧ N5 < N8 ∧ N8 < NB ∧ NB < w0.heap.size
        omega
      have HGD : Hid (∀ d, d ∈ DD → G < markOf d) := fun d hd => by have := HPL.out d hd; omega
      have r0 := bStep r3 hb0
      have lrw : wr.heap.size ≤ w0.heap.size := r0.size
      have oM : Marks w0.heap.size DD w0 := (HPM.out.below r0 (Nat.le_refl _)).mono lrw
      have lh2 : N2 < w0.heap.size := by omega
      have lh5 : N5 < w0.heap.size := by omega
      have lh8 : N8 < w0.heap.size := by omega
      have lhG : G < w0.heap.size := by omega
      clear r0 r1 r2 r3 hw0 eB b83 p23 p53 pG3 hbr3 hb0 k8 hch0 hhh l8
      refine wp_backward NB q N (some ⟨G, 0, none⟩) (zrs s xs j) (by have := HQ.out; omega) rfl rfl
        (fun i W => (Below w.heap.size w W ∧ One1 W 3 N2 (.int .i64 (s : Int)) ∧ One1 W 22 N5 (.slice (some ⟨G, 0, none⟩) N N) ∧ Blk W 33 N8 (fun i => limb i less) ∧ One1 W 22 NB (.slice (some ⟨G, 0, none⟩) q N) ∧ BlkE W G N (zst s less (zrs s xs j) j i) ∧ Marks w0.heap.size DD W) ∧ Hid (i ≤ q))
        (fun _ _ _ => False)
        (fun i W W' hb h => ⟨⟨h.1.1.trans (hb.mono lhw), h.1.2.1.below hb lh2, h.1.2.2.1.below hb lh5, h.1.2.2.2.1.below hb lh8, h.1.2.2.2.2.1.below hb kB, h.1.2.2.2.2.2.1.below hb lhG, h.1.2.2.2.2.2.2.below hb (Nat.le_refl _)⟩, h.2⟩)
        (fun c i W W' hb h => h.elim)
        (fun i W h => h.1.2.2.2.2.1.cell)
        (fun i W hi h => ⟨G, 0, rfl, fun l hl => ?cells⟩) ⟨⟨hbw0, o2, o5, o8, oB, oG, oM⟩, Nat.le_refl _⟩ ?round ?done ?stop
      case cells =>
        have c := h.1.2.2.2.2.2.1.cell i (by have := HQ.out; have := HNN.out; omega) l hl
        rw [zst_low] at c
        rw [Nat.zero_add]
        exact c
      case round =>
        rintro l i W hl hlW hi ⟨⟨hbW, p2, p5, p8, pB, pG, pM⟩, HIQ⟩
        have HXX : Hid (zrs s xs j i < 115792089237316195423570985008687907853269984665640564039457584007913129639936) := zrs_M _ _ _ _
        obtain ⟨x, ex⟩ : ∃ x, x = zrs s xs j i := ⟨_, rfl⟩
        rw [← ex] at HXX ⊢
        have HEX : Hid (x = zrs s xs j i) := ex
        clear ex
        gi_wp2
        obtain ⟨W1, hW1⟩ : ∃ z : World, z = W.alloc (.cells #[.int .u64 ((limb 0 (x) : Nat) : Int), .int .u64 ((limb 1 (x) : Nat) : Int), .int .u64 ((limb 2 (x) : Nat) : Int), .int .u64 ((limb 3 (x) : Nat) : Int)] 33) := ⟨_, rfl⟩
        obtain ⟨N10, e10⟩ : ∃ z, z = W.heap.size := ⟨_, rfl⟩
        rw [← hW1, ← e10]
        have hb1 : Below W.heap.size W W1 := by rw [hW1]; exact bAlloc (Below.refl _ _) _
        have b101 : Blk W1 33 N10 (fun i => limb i x) := by rw [hW1]; exact Blk.newAt _ _ _ (fun i => limb i x) e10
        have n10l : N10 ≠ l := by omega
        have h10 : w0.heap.size < N10 := by omega
        refine ⟨⟨Kr.of_below hb1, ⟨bStep hbW hb1, p2.belowAll hb1, p5.belowAll hb1, p8.belowAll hb1, pB.belowAll hb1, pG.belowAll hb1, pM.below hb1 (by omega)⟩, HIQ⟩, ?_⟩
        rintro W2 hk2 hs2 ⟨⟨hbW2, q2, q5, q8, qB, qG, qM⟩, _⟩
        have b10 := same_Blk b101 hk2 n10l
        have hs02 : w0.heap.size ≤ W2.heap.size := by have := hb1.size; omega
        clear hk2 hs2 b101 hb1 hW1 e10 p2 p5 p8 pB pG pM hbW
        have HG2 : Hid (Glob W2) := HG.out.below hbW2
        have hqv := HQ.out; have hNv := HNN.out
        obtain ⟨ip, eip⟩ : ∃ ip, ip = i + 1 := ⟨_, rfl⟩
        have HIP : Hid (ip = i + 1) := eip
        have HWP : Hid ((i : Int) + 1 = (ip : Int) ∧ IntKind.i64.wrap (ip : Int) = (ip : Int)) := ⟨by omega, wrap_i64_nat ip (by omega)⟩
        have hipN : ip < N := by omega
        have hiN : i < N := by omega
        have hipN2 : (ip : Int) < (N : Int) := by omega
        have hiN2 : (i : Int) < (N : Int) := by omega
        have hip0 : (0 : Int) ≤ (ip : Int) := by omega
        clear hqv hNv
        obtain ⟨u, eu⟩ : ∃ u, u = zst s less (zrs s xs j) j (i + 1) ip := ⟨_, rfl⟩
        have hum : u < 115792089237316195423570985008687907853269984665640564039457584007913129639936 := by rw [eu]; exact zst_M _ _ _ _ _ _ (zrs_M _ _ _)
        have HUC : Hid (∀ w', Below W2.heap.size W2 w' → w'.cell? ⟨G, ip * 4, none⟩ = some (.int .u64 ((limb 0 u : Nat) : Int)) ∧ w'.cell? ⟨G, ip * 4 + 1, none⟩ = some (.int .u64 ((limb 1 u : Nat) : Int)) ∧ w'.cell? ⟨G, ip * 4 + 2, none⟩ = some (.int .u64 ((limb 2 u : Nat) : Int)) ∧ w'.cell? ⟨G, ip * 4 + 3, none⟩ = some (.int .u64 ((limb 3 u : Nat) : Int))) := fun w' hb => by
          have q := (qG.belowAll hb).cell ip hipN
          have q0 := q 0 (by decide); have q1 := q 1 (by decide); have q2 := q 2 (by decide); have q3 := q 3 (by decide)
          rw [Nat.add_zero] at q0
          rw [← eu] at q0 q1 q2 q3
          exact ⟨q0, q1, q2, q3⟩
        have hA := HADD.out u x hum HXX.out
        have hM := HMUL.out less x HLM.out HXX.out
        obtain ⟨y, ey⟩ : ∃ y, y = addP s u x := ⟨_, rfl⟩
        obtain ⟨p, ep⟩ : ∃ p, p = mulP s less x := ⟨_, rfl⟩
        rw [← ey] at hA
        rw [← ep] at hM
        have HAD : Hid (∀ w, Glob w → Calls Tryd.prog 32 #[.int .i64 (s : Int), .agg #[.int .u64 ((limb 0 (u) : Nat) : Int), .int .u64 ((limb 1 (u) : Nat) : Int), .int .u64 ((limb 2 (u) : Nat) : Int), .int .u64 ((limb 3 (u) : Nat) : Int)], .agg #[.int .u64 ((limb 0 (x) : Nat) : Int), .int .u64 ((limb 1 (x) : Nat) : Int), .int .u64 ((limb 2 (x) : Nat) : Int), .int .u64 ((limb 3 (x) : Nat) : Int)]] w fun e w' => e = .returned (.agg #[.int .u64 ((limb 0 (y) : Nat) : Int), .int .u64 ((limb 1 (y) : Nat) : Int), .int .u64 ((limb 2 (y) : Nat) : Int), .int .u64 ((limb 3 (y) : Nat) : Int)]) ∧ Below w.heap.size w w') := hA
        have HMU : Hid (∀ w, Glob w → Calls Tryd.prog 23 #[.int .i64 (s : Int), .agg #[.int .u64 ((limb 0 (less) : Nat) : Int), .int .u64 ((limb 1 (less) : Nat) : Int), .int .u64 ((limb 2 (less) : Nat) : Int), .int .u64 ((limb 3 (less) : Nat) : Int)], .agg #[.int .u64 ((limb 0 (x) : Nat) : Int), .int .u64 ((limb 1 (x) : Nat) : Int), .int .u64 ((limb 2 (x) : Nat) : Int), .int .u64 ((limb 3 (x) : Nat) : Int)]] w fun e w' => e = .returned (.agg #[.int .u64 ((limb 0 (p) : Nat) : Int), .int .u64 ((limb 1 (p) : Nat) : Int), .int .u64 ((limb 2 (p) : Nat) : Int), .int .u64 ((limb 3 (p) : Nat) : Int)]) ∧ Below w.heap.size w w') := hM
        have HST : Hid (∀ t, t < N → (if t = i then p else if t = ip then y else zst s less (zrs s xs j) j (i + 1) t) = zst s less (zrs s xs j) j i t) := fun t _ => by
          rw [ep, ey, eu, HEX.out, eip]
          exact zst_step _ _ _ _ _ (by have := HQ.out; omega) t
        clear hA hM ey ep eu eip hum
        gi_wp2_with fail
        refine wpIn_region_Z (fun w' => Below W2.heap.size W2 w') 12 (by kernel_rfl) (by kernel_rfl) (by rintro ⟨_, _, h⟩; exact h) ?_
        obtain ⟨wD, hD⟩ : ∃ x : World, x = W2.drew := ⟨_, rfl⟩
        rw [← hD]
        have hp0_0 : Below W2.heap.size W2 wD := by rw [hD]; exact (Below.refl _ _).drew
        have hlow0 : Below W2.heap.size W2 wD := by rw [hD]; exact (Below.refl _ _).drew
        clear hD
        refine wpZ_take (i := 0) (v := .slice (some ⟨G, 0, none⟩) N N) 35 rfl rfl (by kernel_rfl) (by kernel_rfl) (by kernel_rfl) (Or.inl (by kernel_rfl)) (fun _ _ _ h => h) (Or.inl ⟨by rfl, fun w hSw => by (have qq := (q5.belowAll hSw).cell; clear hSw; go_simp)⟩) hp0_0 ?_
        simp only [Act.put, List.setIfInBounds_toArray]
        dsimp only [List.set_cons_zero, List.set_cons_succ]
        refine wpZ_take (i := 1) (v := .int .i64 (i : Int)) 36 rfl rfl (by kernel_rfl) (by kernel_rfl) (by kernel_rfl) (Or.inl (by kernel_rfl)) (fun _ _ _ h => h) (Or.inl ⟨by rfl, fun w hSw => by go_simp⟩) hp0_0 ?_
        simp only [Act.put, List.setIfInBounds_toArray]
        dsimp only [List.set_cons_zero, List.set_cons_succ]
        refine wpZ_take (i := 2) (v := .int .i64 (ip : Int)) 37 rfl rfl (by kernel_rfl) (by kernel_rfl) (by kernel_rfl) (Or.inl (by kernel_rfl)) (fun _ _ _ h => h) (Or.inl ⟨by rfl, fun w hSw => by (have hwp := HWP.out; clear hSw; go_simp)⟩) hp0_0 ?_
        simp only [Act.put, List.setIfInBounds_toArray]
        dsimp only [List.set_cons_zero, List.set_cons_succ]
        refine wpZ_take (i := 3) (v := .int .i64 (s : Int)) 38 rfl rfl (by kernel_rfl) (by kernel_rfl) (by kernel_rfl) (Or.inl (by kernel_rfl)) (fun _ _ _ h => h) (Or.inl ⟨by rfl, fun w hSw => by (have qq := (q2.belowAll hSw).cell; clear hSw; go_simp)⟩) hp0_0 ?_
        simp only [Act.put, List.setIfInBounds_toArray]
        dsimp only [List.set_cons_zero, List.set_cons_succ]
        refine wpZ_take (i := 4) (v := .slice (some ⟨G, 0, none⟩) N N) 39 rfl rfl (by kernel_rfl) (by kernel_rfl) (by kernel_rfl) (Or.inl (by kernel_rfl)) (fun _ _ _ h => h) (Or.inl ⟨by rfl, fun w hSw => by (have qq := (q5.belowAll hSw).cell; clear hSw; go_simp)⟩) hp0_0 ?_
        simp only [Act.put, List.setIfInBounds_toArray]
        dsimp only [List.set_cons_zero, List.set_cons_succ]
        refine wpZ_take (i := 5) (v := .int .i64 (i : Int)) 40 rfl rfl (by kernel_rfl) (by kernel_rfl) (by kernel_rfl) (Or.inl (by kernel_rfl)) (fun _ _ _ h => h) (Or.inl ⟨by rfl, fun w hSw => by go_simp⟩) hp0_0 ?_
        simp only [Act.put, List.setIfInBounds_toArray]
        dsimp only [List.set_cons_zero, List.set_cons_succ]
        refine wpZ_take (i := 6) (v := .int .i64 (ip : Int)) 41 rfl rfl (by kernel_rfl) (by kernel_rfl) (by kernel_rfl) (Or.inl (by kernel_rfl)) (fun _ _ _ h => h) (Or.inl ⟨by rfl, fun w hSw => by (have hwp := HWP.out; clear hSw; go_simp)⟩) hp0_0 ?_
        simp only [Act.put, List.setIfInBounds_toArray]
        dsimp only [List.set_cons_zero, List.set_cons_succ]
        refine wpZ_take (i := 7) (v := .pointer (some ⟨G, (ip * 4), none⟩)) 42 rfl rfl (by kernel_rfl) (by kernel_rfl) (by kernel_rfl) (Or.inl (by kernel_rfl)) (fun _ _ _ h => h) (Or.inl ⟨by rfl, fun w hSw => by go_simp⟩) hp0_0 ?_
        simp only [Act.put, List.setIfInBounds_toArray]
        dsimp only [List.set_cons_zero, List.set_cons_succ]
        refine wpZ_take (i := 8) (v := .agg #[.int .u64 ((limb 0 (u) : Nat) : Int), .int .u64 ((limb 1 (u) : Nat) : Int), .int .u64 ((limb 2 (u) : Nat) : Int), .int .u64 ((limb 3 (u) : Nat) : Int)]) 43 rfl rfl (by kernel_rfl) (by kernel_rfl) (by kernel_rfl) (Or.inl (by kernel_rfl)) (fun _ _ _ h => h) (Or.inl ⟨by rfl, fun w hSw => by (obtain ⟨q0, q1, q2, q3⟩ := HUC.out w hSw; clear hSw; go_simp)⟩) hp0_0 ?_
        simp only [Act.put, List.setIfInBounds_toArray]
        dsimp only [List.set_cons_zero, List.set_cons_succ]
        refine wpZ_take (i := 9) (v := .agg #[.int .u64 ((limb 0 (x) : Nat) : Int), .int .u64 ((limb 1 (x) : Nat) : Int), .int .u64 ((limb 2 (x) : Nat) : Int), .int .u64 ((limb 3 (x) : Nat) : Int)]) 44 rfl rfl (by kernel_rfl) (by kernel_rfl) (by kernel_rfl) (Or.inl (by kernel_rfl)) (fun _ _ _ h => h) (Or.inl ⟨by rfl, fun w hSw => by (have qq := (b10.belowAll hSw).cell; clear hSw; go_simp)⟩) hp0_0 ?_
        simp only [Act.put, List.setIfInBounds_toArray]
        dsimp only [List.set_cons_zero, List.set_cons_succ]
        refine wpZ_one (i := 10) (by kernel_rfl) rfl (fun K hK => ?_)
        go_simp
        refine (HAD.out wD (HG2.out.below hlow0)).mono ?_
        rintro e wT1 ⟨rfl, hbT1⟩
        have hlowT1 := bStep hlow0 hbT1
        go_wp2_with fail
        refine hK.out _ _ (fun _ => hlowT1) ?_
        clear hK K hbT1
        refine wpZ_take (i := 11) (v := .pointer (some ⟨G, (ip * 4), none⟩)) 46 rfl rfl (by kernel_rfl) (by kernel_rfl) (by kernel_rfl) (Or.inl (by kernel_rfl)) (fun _ _ _ h => h) (Or.inl ⟨by rfl, fun w hSw => by go_simp⟩) hlowT1 ?_
        simp only [Act.put, List.setIfInBounds_toArray]
        dsimp only [List.set_cons_zero, List.set_cons_succ]
        refine wpZ_one (i := 12) (by kernel_rfl) rfl (fun K hK => ?_)
        have bS := qG.belowAll hlowT1
        have o0 := bS.cell ip hipN 0 (by decide); have o1 := bS.cell ip hipN 1 (by decide); have o2 := bS.cell ip hipN 2 (by decide); have o3 := bS.cell ip hipN 3 (by decide)
        rw [Nat.add_zero] at o0
        have fo := bS.frozen
        obtain ⟨W5, hW5, uG, hk5⟩ := bS.put hipN y
        go_simp
        refine hK.out _ _ (fun h => absurd rfl h) ?_
        clear hK K
        refine wpZ_done (by kernel_rfl) ?_ _
        have hch := HCH.out
        have hbW5 : Below w.heap.size w W5 := bKept (bStep hbW2 hlowT1) (by omega) hk5
        have u2 := (q2.belowAll hlowT1).kept (by omega) hk5; have u5 := (q5.belowAll hlowT1).kept (by omega) hk5; have u8 := (q8.belowAll hlowT1).kept (by omega) hk5; have uB := (qB.belowAll hlowT1).kept (by omega) hk5; have u10 := (b10.belowAll hlowT1).kept (by omega) hk5
        have uM : Marks w0.heap.size DD W5 := (qM.below hlowT1 (by omega)).kept hk5 (fun d hd => by have := HGD.out d hd; omega) (by have := (hlowT1).size; omega)
        have kr5 : Kr w0.heap.size W2 W5 := (Kr.of_below hlowT1).trans (Kr.of_kept hk5 (by omega))
        have HGW5 : Hid (Glob W5) := HG.out.below hbW5
        have l5 : W2.heap.size ≤ W5.heap.size := kr5.1
        clear bS o0 o1 o2 o3 fo hk5 q2 q5 q8 qB qG b10 qM hbW2 HUC HAD HG2 hch
        gi_wp2_with fail
        refine wpIn_region_Z (fun w' => Below W5.heap.size W5 w') 7 (by kernel_rfl) (by kernel_rfl) (by rintro ⟨_, _, h⟩; exact h) ?_
        obtain ⟨wD, hD⟩ : ∃ x : World, x = W5.drew := ⟨_, rfl⟩
        rw [← hD]
        have hp0_0 : Below W5.heap.size W5 wD := by rw [hD]; exact (Below.refl _ _).drew
        have hlow0 : Below W5.heap.size W5 wD := by rw [hD]; exact (Below.refl _ _).drew
        clear hD
        refine wpZ_take (i := 0) (v := .slice (some ⟨G, 0, none⟩) N N) 47 rfl rfl (by kernel_rfl) (by kernel_rfl) (by kernel_rfl) (Or.inl (by kernel_rfl)) (fun _ _ _ h => h) (Or.inl ⟨by rfl, fun w hSw => by (have qq := (u5.belowAll hSw).cell; clear hSw; go_simp)⟩) hp0_0 ?_
        simp only [Act.put, List.setIfInBounds_toArray]
        dsimp only [List.set_cons_zero, List.set_cons_succ]
        refine wpZ_take (i := 1) (v := .int .i64 (i : Int)) 48 rfl rfl (by kernel_rfl) (by kernel_rfl) (by kernel_rfl) (Or.inl (by kernel_rfl)) (fun _ _ _ h => h) (Or.inl ⟨by rfl, fun w hSw => by go_simp⟩) hp0_0 ?_
        simp only [Act.put, List.setIfInBounds_toArray]
        dsimp only [List.set_cons_zero, List.set_cons_succ]
        refine wpZ_take (i := 2) (v := .int .i64 (s : Int)) 49 rfl rfl (by kernel_rfl) (by kernel_rfl) (by kernel_rfl) (Or.inl (by kernel_rfl)) (fun _ _ _ h => h) (Or.inl ⟨by rfl, fun w hSw => by (have qq := (u2.belowAll hSw).cell; clear hSw; go_simp)⟩) hp0_0 ?_
        simp only [Act.put, List.setIfInBounds_toArray]
        dsimp only [List.set_cons_zero, List.set_cons_succ]
        refine wpZ_take (i := 3) (v := .agg #[.int .u64 ((limb 0 (less) : Nat) : Int), .int .u64 ((limb 1 (less) : Nat) : Int), .int .u64 ((limb 2 (less) : Nat) : Int), .int .u64 ((limb 3 (less) : Nat) : Int)]) 50 rfl rfl (by kernel_rfl) (by kernel_rfl) (by kernel_rfl) (Or.inl (by kernel_rfl)) (fun _ _ _ h => h) (Or.inl ⟨by rfl, fun w hSw => by (have qq := (u8.belowAll hSw).cell; clear hSw; go_simp)⟩) hp0_0 ?_
        simp only [Act.put, List.setIfInBounds_toArray]
        dsimp only [List.set_cons_zero, List.set_cons_succ]
        refine wpZ_take (i := 4) (v := .agg #[.int .u64 ((limb 0 (x) : Nat) : Int), .int .u64 ((limb 1 (x) : Nat) : Int), .int .u64 ((limb 2 (x) : Nat) : Int), .int .u64 ((limb 3 (x) : Nat) : Int)]) 51 rfl rfl (by kernel_rfl) (by kernel_rfl) (by kernel_rfl) (Or.inl (by kernel_rfl)) (fun _ _ _ h => h) (Or.inl ⟨by rfl, fun w hSw => by (have qq := (u10.belowAll hSw).cell; clear hSw; go_simp)⟩) hp0_0 ?_
        simp only [Act.put, List.setIfInBounds_toArray]
        dsimp only [List.set_cons_zero, List.set_cons_succ]
        refine wpZ_one (i := 5) (by kernel_rfl) rfl (fun K hK => ?_)
        go_simp
        refine (HMU.out wD (HGW5.out.below hlow0)).mono ?_
        rintro e wT1 ⟨rfl, hbT1⟩
        have hlowT1 := bStep hlow0 hbT1
        go_wp2_with fail
        refine hK.out _ _ (fun _ => hlowT1) ?_
        clear hK K hbT1
        refine wpZ_take (i := 6) (v := .pointer (some ⟨G, (i * 4), none⟩)) 53 rfl rfl (by kernel_rfl) (by kernel_rfl) (by kernel_rfl) (Or.inl (by kernel_rfl)) (fun _ _ _ h => h) (Or.inl ⟨by rfl, fun w hSw => by go_simp⟩) hlowT1 ?_
        simp only [Act.put, List.setIfInBounds_toArray]
        dsimp only [List.set_cons_zero, List.set_cons_succ]
        refine wpZ_one (i := 7) (by kernel_rfl) rfl (fun K hK => ?_)
        have bS := uG.belowAll hlowT1
        have o0 := bS.cell i hiN 0 (by decide); have o1 := bS.cell i hiN 1 (by decide); have o2 := bS.cell i hiN 2 (by decide); have o3 := bS.cell i hiN 3 (by decide)
        rw [Nat.add_zero] at o0
        have fo := bS.frozen
        obtain ⟨W7, hW7, vG, hk7⟩ := bS.put hiN p
        go_simp
        refine hK.out _ _ (fun h => absurd rfl h) ?_
        clear hK K
        refine wpZ_done (by kernel_rfl) ?_ _
        have hch := HCH.out
        have hbW7 : Below w.heap.size w W7 := bKept (bStep hbW5 hlowT1) (by omega) hk7
        have v2 := (u2.belowAll hlowT1).kept (by omega) hk7; have v5 := (u5.belowAll hlowT1).kept (by omega) hk7; have v8 := (u8.belowAll hlowT1).kept (by omega) hk7; have vB := (uB.belowAll hlowT1).kept (by omega) hk7
        have vM : Marks w0.heap.size DD W7 := (uM.below hlowT1 (by omega)).kept hk7 (fun d hd => by have := HGD.out d hd; omega) (by have := (hlowT1).size; omega)
        have kr7 : Kr w0.heap.size W2 W7 := kr5.trans ((Kr.of_below hlowT1).trans (Kr.of_kept hk7 (by omega)))
        have vG2 : BlkE W7 G N (zst s less (zrs s xs j) j i) := vG.congr (fun t ht => (HST.out t ht).symm)
        clear hk7 hch bS
        gi_wp2
        exact ⟨kr7, ⟨hbW7, v2, v5, v8, vB, vG2, vM⟩, (by show i ≤ q; omega)⟩
      case done =>
        rintro D W hD ⟨⟨hbW, p2, p5, p8, pB, pG, pM⟩, _⟩ hK
        have hqe : (j : Int) + 1 = (q : Int) := by have := HQ.out; omega
        have hqw : IntKind.i64.wrap (q : Int) = (q : Int) := wrap_i64_nat q (by have := HQ.out; omega)
        go_wp2
        have hD2 := (Array.getElem?_eq_some_iff.1 hK).1
        have hch := HCH0.out; have hhh := HHH.out; have hjk := HJK.out; have hqv := HQ.out
        refine Handed.intro (k - 1) (by omega) (hJ _ _ _ ⟨q, _, _, _, _, _, _, _, _, _, _, _, _, _, _, _, _, _, by omega, rfl, ⟨hbW, p2, p5, pG.congr (fun t _ => ?zz)⟩, ⟨D, hD2, rfl, hK, pM.mono hD⟩, ?ml, by omega⟩)
        case zz => rw [HQ.out, HLE.out]; rfl
        case ml =>
          intro d hd
          rcases List.mem_cons.1 hd with rfl | hd
          · show H0 ≤ D
            omega
          · exact HPL.out d hd
      case stop =>
        rintro D c i W _ _ h _
        exact h.elim
    · have hji : ¬ (j : Int) < (n : Int) := by omega
      obtain rfl : j = n := by omega
      have p5c := p5.cell
      clear hjk
      go_wp2
      refine Marks.leave HPM.out HPL.out ?_
      intro W' hb'
      have hch := HCH0.out
      have hhh := HHH.out
      refine ⟨.slice (some ⟨G, 0, none⟩) N N, by simp [results, Tryd.results16, go_sem], ?_⟩
      exact ⟨⟨G, rfl, by omega, pG.below hb' (by omega)⟩, hbr.trans (hb'.mono (by omega))⟩
end Go.Proofs.YtfahhohhpjlhnaaDoor
