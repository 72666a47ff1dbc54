/- What both sides of PolySums answer. -/
import Derived.Test.YtfjdnlcfhgamfaaDoorPR2
namespace Go.Proofs.YtfjdnlcfhgamfaaDoor
open Go.RowKit

theorem Es.same {w : World} {v : Value} {n : Nat} {f g : Nat → Nat} (h : Es w v n f) (hg : ∀ i, i < n → g i = f i) : Es w v n g := by
  rcases h with h | ⟨b, o, c, h1, h2, h3, h5, h6⟩
  · exact Or.inl h
  · exact Or.inr ⟨b, o, c, h1, h2, h3, h5, fun i hi j hj => by rw [hg i hi]; exact h6 i hi j hj⟩
/-- The first k of a block's elements. -/
theorem BlkE.EsK {w : World} {b n k : Nat} {f : Nat → Nat} (h : BlkE w b n f) (hn : n ≤ maxLen) (hk : k ≤ n) : Go.Proofs.YtfjdnlcfhgamfaaDoor.Es w (.slice (some ⟨b, 0, none⟩) k n) k f :=
  Or.inr ⟨b, 0, n, rfl, hk, hn, h.lt, fun i hi j hj => by rw [Nat.zero_add]; exact h.cell i (by omega) j hj⟩
theorem szE_congr {el el' f g : Nat → Nat} : ∀ n, (∀ i, i < n → (el (f i) = 0 ↔ el' (g i) = 0)) → szE el f n = szE el' g n
  | 0, _ => rfl
  | n + 1, h => by
    have ih := szE_congr n (fun i hi => h i (by omega))
    unfold szE
    by_cases c : el (f n) = 0
    · rw [if_pos c, if_pos ((h n (by omega)).1 c)]; exact ih
    · rw [if_neg c, if_neg (fun d => c ((h n (by omega)).2 d))]
theorem szE_above {el f : Nat → Nat} : ∀ n i, szE el f n ≤ i → i < n → el (f i) = 0
  | 0, i, _, h => by omega
  | n + 1, i, h1, h2 => by
    unfold szE at h1
    by_cases c : el (f n) = 0
    · rw [if_pos c] at h1
      by_cases d : i = n
      · rw [d]; exact c
      · exact szE_above n i h1 (by omega)
    · rw [if_neg c] at h1; omega
theorem szE_cut {el f : Nat → Nat} (k : Nat) : ∀ n, k ≤ n → (∀ i, k ≤ i → i < n → el (f i) = 0) → szE el f n = szE el f k
  | 0, h, _ => by rw [show k = 0 by omega]
  | n + 1, h, hz => by
    by_cases c : k = n + 1
    · rw [c]
    · have e : szE el f (n + 1) = szE el f n := by show (if el (f n) = 0 then _ else _) = _; rw [if_pos (hz n (by omega) (by omega))]
      rw [e]
      exact szE_cut k n (by omega) (fun i h1 h2 => hz i h1 (by omega))
theorem el_mod (s a : Nat) : addP s a 0 = a % modN s := rfl
theorem el_lt {s a : Nat} (h : a < modN s) : addP s a 0 = a := Nat.mod_eq_of_lt h
theorem addP_comm (s a b : Nat) : addP s a b = addP s b a := by unfold addP; rw [Nat.add_comm]
theorem addP_zero (s a : Nat) : addP s 0 a = addP s a 0 := addP_comm s 0 a
theorem mulP_mod (s a b : Nat) : mulP s (addP s a 0) (addP s b 0) = mulP s b a := by rw [el_mod, el_mod, mulP_comm]; unfold mulP; rw [← Nat.mul_mod]
/-- In the sorts: the sums of both sides. -/
theorem add_same1 (s n m : Nat) (f g : Nat → Nat) (i : Nat) (hi : i < n) : addP s (rsm (addP s) f g n m i) 0 = addP s (zx g m i) (f i) := by
  unfold rsm zx
  rw [if_pos hi]
  by_cases c : i < m
  · rw [if_pos c, if_pos c, el_lt (addP_lt _ _ _), addP_comm]
  · rw [if_neg c, if_neg c, addP_zero]
theorem add_same2 (s n m : Nat) (f g : Nat → Nat) (i : Nat) (hi : i < m) : rsm (addP s) f g n m i = addP s (zx f n i) (g i) := by
  unfold rsm zx
  by_cases c : i < n
  · rw [if_pos c, if_pos c, if_pos hi]
  · rw [if_neg c, if_neg c]
/-- The value at x, by both ways. -/
theorem hor_pf (s x : Nat) (f : Nat → Nat) (n : Nat) : ∀ d, d ≤ n → fz s (hor (addP s) (mulP s) x f n d) = pf (fz s x) d (fun j => fz s (f (n - d + j)))
  | 0, _ => rfl
  | d + 1, h => by
    show fz s (addP s (mulP s (hor (addP s) (mulP s) x f n d) x) (f (n - (d + 1)))) = pf (fz s x) d (fun j => fz s (f (n - (d + 1) + (j + 1)))) * fz s x + fz s (f (n - (d + 1) + 0))
    rw [fz_add, fz_mul, hor_pf s x f n d (by omega), Nat.add_zero (n - (d + 1)), pf_congr _ _ (f := fun j => fz s (f (n - d + j))) (g := fun j => fz s (f (n - (d + 1) + (j + 1)))) (fun j _ => by rw [show n - d + j = n - (d + 1) + (j + 1) by omega])]
theorem hor_lt (s x : Nat) (f : Nat → Nat) (n d : Nat) : hor (addP s) (mulP s) x f n d < modN s := by
  cases d with
  | zero => exact modN_pos s
  | succ d => exact addP_lt _ _ _
set_option maxHeartbeats 4000000 in
/-- The reference's Eval of layer 7. -/
theorem rEv_in (s n cn c : Nat) (oa : Option Addr) (f : Nat → Nat) (hs : s < 4) (hc : c < 115792089237316195423570985008687907853269984665640564039457584007913129639936) (hn : n ≤ 90000) (hf : ∀ i, i < n → f i < 115792089237316195423570985008687907853269984665640564039457584007913129639936) (w : World) (hv : Es w (.slice oa n cn) n f) :
    Calls Tryd.prog 21 #[.int .i64 (s : Int), .slice oa n cn, .agg #[.int .u64 ((limb 0 (c) : Nat) : Int), .int .u64 ((limb 1 (c) : Nat) : Int), .int .u64 ((limb 2 (c) : Nat) : Int), .int .u64 ((limb 3 (c) : Nat) : Int)]] w fun e w' => e = .returned (.agg #[.int .u64 ((limb 0 (hor (addP s) (mulP s) (addP s c 0) f n n) : Nat) : Int), .int .u64 ((limb 1 (hor (addP s) (mulP s) (addP s c 0) f n n) : Nat) : Int), .int .u64 ((limb 2 (hor (addP s) (mulP s) (addP s c 0) f n n) : Nat) : Int), .int .u64 ((limb 3 (hor (addP s) (mulP s) (addP s c 0) f n n) : Nat) : Int)]) ∧ Below w.heap.size w w' := by
  have HK := known_in s hs
  have HE : Hid (∀ w, Es w (.slice oa n cn) n f → _) := fun w hv => rEval_in s n cn c oa f hs hc (by omega) hf w hv
  have HY : Hid (∀ y, (y < modN s ∨ y = 0) → fz s y = pf (fz s c) n (fun j => fz s (f j)) → y = hor (addP s) (mulP s) (addP s c 0) f n n) := fun y hy hz => by
    refine fz_inj (hy.elim id (fun h => by rw [h]; exact modN_pos s)) (hor_lt _ _ _ _ _) ?_
    have e := hor_pf s (addP s c 0) f n n (Nat.le_refl _)
    rw [hz, e, show fz s (addP s c 0) = fz s c from fz_eq.2 (by rw [el_mod, Nat.mod_mod]), Nat.sub_self]
    exact pf_congr _ _ (fun j _ => by rw [Nat.zero_add])
  have HV : Hid (Es w (.slice oa n cn) n f) := hv
  clear hs hc hf hv
  obtain ⟨w0, hw0⟩ : ∃ z : World, z = (w.alloc (.cells #[.int .u64 ((limb 0 (c) : Nat) : Int), .int .u64 ((limb 1 (c) : Nat) : Int), .int .u64 ((limb 2 (c) : Nat) : Int), .int .u64 ((limb 3 (c) : Nat) : Int)] 25)).alloc (.cells #[.int .u64 0, .int .u64 0, .int .u64 0, .int .u64 0] 25) := ⟨_, rfl⟩
  obtain ⟨N5, e5⟩ : ∃ z, z = w.heap.size := ⟨_, rfl⟩
  obtain ⟨N6, e6⟩ : ∃ z, z = N5 + 1 := ⟨_, rfl⟩
  have b50 : Blk w0 25 N5 (fun i => limb i c) := by rw [hw0]; exact (Blk.newAt _ _ _ (fun i => limb i c) e5).alloc _
  have b60 : Blk w0 25 N6 (fun _ => 0) := by rw [hw0]; exact Blk.newAt _ _ _ (fun _ => 0) (by rw [e6, e5]; simp)
  have hb0 : Below w.heap.size w w0 := by rw [hw0]; exact bAlloc (bAlloc (Below.refl _ _) _) _
  have l6 : w.heap.size ≤ N6 := by omega
  go_enter Tryd.func21, Tryd.ntmps21
  go_upto_region 1 with fail
  rw [← hw0, ← e5, ← e6]
  clear hw0 e5 e6
  go_wp2_with fail
  refine (HK w0).mono ?_
  rintro e w1 ⟨rfl, hw1⟩
  obtain rfl := hw1.symm
  clear HK hw1
  have c5 := b50.cell
  go_wp2_with fail
  refine (HE.out w0 (HV.out.below hb0)).mono ?_
  rintro e w2 ⟨⟨y, rfl, h1, h2⟩, hb2⟩
  have HYY : Hid (y = hor (addP s) (mulP s) (addP s c 0) f n n) := HY.out y h1 h2
  have b62 := b60.belowAll hb2
  have hbw2 := bStep hb0 hb2
  clear h1 h2 b60 b50 hb2 hb0 c5 HE HY
  have c6 := b62.cell; have f6 := b62.frozen
  obtain ⟨w3, hw3, b63, hk3⟩ := b62.put4 y
  have hbw3 := bKept hbw2 l6 hk3
  have cs := b63.cell
  clear hk3 hbw2
  go_wp2
  refine bodyPost_ret (v := .agg #[.int .u64 ((limb 0 (y) : Nat) : Int), .int .u64 ((limb 1 (y) : Nat) : Int), .int .u64 ((limb 2 (y) : Nat) : Int), .int .u64 ((limb 3 (y) : Nat) : Int)]) (by simp [results, Tryd.results21, go_sem, cs]) rfl ?_
  exact ⟨by rw [HYY.out], hbw3⟩
set_option maxHeartbeats 4000000 in
theorem rEv_out (s : Int) (v : Value) (c : Nat) (hs : s < 0 ∨ 4 ≤ s) (w : World) :
    Calls Tryd.prog 21 #[.int .i64 s, v, .agg #[.int .u64 ((limb 0 (c) : Nat) : Int), .int .u64 ((limb 1 (c) : Nat) : Int), .int .u64 ((limb 2 (c) : Nat) : Int), .int .u64 ((limb 3 (c) : Nat) : Int)]] w fun e w' => e = .returned (.agg #[.int .u64 ((limb 0 (0) : Nat) : Int), .int .u64 ((limb 1 (0) : Nat) : Int), .int .u64 ((limb 2 (0) : Nat) : Int), .int .u64 ((limb 3 (0) : Nat) : Int)]) ∧ Below w.heap.size w w' := by
  have HK := known_out s hs
  clear hs
  rw [zE]
  obtain ⟨w0, hw0⟩ : ∃ z : World, z = (w.alloc (.cells #[.int .u64 ((limb 0 (c) : Nat) : Int), .int .u64 ((limb 1 (c) : Nat) : Int), .int .u64 ((limb 2 (c) : Nat) : Int), .int .u64 ((limb 3 (c) : Nat) : Int)] 25)).alloc (.cells #[.int .u64 0, .int .u64 0, .int .u64 0, .int .u64 0] 25) := ⟨_, rfl⟩
  obtain ⟨N6, e6⟩ : ∃ z, z = w.heap.size + 1 := ⟨_, rfl⟩
  have b60 : Blk w0 25 N6 (fun _ => 0) := by rw [hw0]; exact Blk.newAt _ _ _ (fun _ => 0) (by rw [e6]; simp)
  have hb0 : Below w.heap.size w w0 := by rw [hw0]; exact bAlloc (bAlloc (Below.refl _ _) _) _
  have l6 : w.heap.size ≤ N6 := by omega
  go_enter Tryd.func21, Tryd.ntmps21
  go_upto_region 1 with fail
  rw [← hw0, ← e6]
  clear hw0 e6
  go_wp2_with fail
  refine (HK w0).mono ?_
  rintro e w1 ⟨rfl, hw1⟩
  obtain rfl := hw1.symm
  clear HK hw1
  have c6 := b60.cell; have f6 := b60.frozen
  obtain ⟨w3, hw3, b63, hk3⟩ := b60.put4 0
  have hw4 : ((((w0.setCell ⟨N6, 0, none⟩ (.int .u64 0)).setCell ⟨N6, 1, none⟩ (.int .u64 0)).setCell ⟨N6, 2, none⟩ (.int .u64 0)).setCell ⟨N6, 3, none⟩ (.int .u64 0)) = w3 := by rw [← hw3, limb_zero, limb_zero, limb_zero, limb_zero]; rfl
  have hbw3 := bKept hb0 l6 hk3
  have cs := (b63.congr (g := fun _ => 0) (fun i _ => (limb_zero i).symm)).cell
  clear hk3 hb0 hw3
  go_wp2
  refine bodyPost_ret (v := .agg #[.int .u64 0, .int .u64 0, .int .u64 0, .int .u64 0]) (by simp [results, Tryd.results21, go_sem, cs]) rfl ?_
  exact ⟨rfl, hbw3⟩
/-- hor out of the sorts. -/
theorem hor_out (x : Nat) (f : Nat → Nat) (n d : Nat) : hor (fun _ _ => 0) (fun _ _ => 0) x f n d = 0 := by
  cases d with
  | zero => rfl
  | succ d => rfl
end Go.Proofs.YtfjdnlcfhgamfaaDoor
