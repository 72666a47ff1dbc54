/- permute.element, sum; Lagrange by a function; product.Check. -/
import Derived.Test.YtfbfenljfdnggaaGreatDoorVW5
import Derived.Test.YtfbfenljfdnggaaGreatDoorVBE
namespace Go.Proofs.YtfbfenljfdnggaaGreatDoor
open Go.RowKit
/-- What lies in a block. -/
def Lay (w : World) (t : TypeId) (b : Nat) (cs : Array Value) : Prop := w.heap[b]? = some (.cells cs t)
theorem Lay.lt {w : World} {t : TypeId} {b : Nat} {cs : Array Value} (h : Lay w t b cs) : b < w.heap.size := (Array.getElem?_eq_some_iff.1 h).1
theorem Lay.below {w w' : World} {t : TypeId} {b m : Nat} {cs : Array Value} (h : Lay w t b cs) (hb : Below m w w') (hm : b < m) : Lay w' t b cs := by unfold Lay; rw [hb.block b hm]; exact h
theorem Lay.belowAll {w w' : World} {t : TypeId} {b : Nat} {cs : Array Value} (h : Lay w t b cs) (hb : Below w.heap.size w w') : Lay w' t b cs := h.below hb h.lt
theorem Lay.newAt (w : World) (t : TypeId) (cs : Array Value) {b : Nat} (h : b = w.heap.size) : Lay (w.alloc (.cells cs t)) t b cs := by rw [h]; exact new_blockE _ _
theorem Lay.alloc {w : World} {t : TypeId} {b : Nat} {cs : Array Value} (h : Lay w t b cs) (o : Obj) : Lay (w.alloc o) t b cs := h.belowAll (bAlloc (Below.refl _ _) _)
/-- An element's words in a row of values. -/
def El (cs : Array Value) (o x : Nat) : Prop := cs[o]? = some (.int .u64 ((limb 0 x : Nat) : Int)) ∧ cs[o + 1]? = some (.int .u64 ((limb 1 x : Nat) : Int)) ∧ cs[o + 2]? = some (.int .u64 ((limb 2 x : Nat) : Int)) ∧ cs[o + 3]? = some (.int .u64 ((limb 3 x : Nat) : Int))
theorem Lay.at {w : World} {t : TypeId} {b o : Nat} {cs : Array Value} {v : Value} (h : Lay w t b cs) (e : cs[o]? = some v) : w.cell? ⟨b, o, none⟩ = some v := by unfold Lay at h; simp [World.cell?, h, e]
theorem Lay.el {w : World} {t : TypeId} {b o x : Nat} {cs : Array Value} (h : Lay w t b cs) (e : El cs o x) : w.cell? ⟨b, o, none⟩ = some (.int .u64 ((limb 0 x : Nat) : Int)) ∧ w.cell? ⟨b, o + 1, none⟩ = some (.int .u64 ((limb 1 x : Nat) : Int)) ∧ w.cell? ⟨b, o + 2, none⟩ = some (.int .u64 ((limb 2 x : Nat) : Int)) ∧ w.cell? ⟨b, o + 3, none⟩ = some (.int .u64 ((limb 3 x : Nat) : Int)) :=
  ⟨h.at e.1, h.at e.2.1, h.at e.2.2.1, h.at e.2.2.2⟩
theorem Lay.kept {w w' : World} {t : TypeId} {b g : Nat} {cs : Array Value} (h : Lay w t b cs) (hne : b ≠ g) (hk : Kept g w w') : Lay w' t b cs := by unfold Lay; rw [hk.block b h.lt hne]; exact h
theorem lag_same {s k i x v v' : Nat} (h : LagP s k i x v) (h' : LagP s k i x v') : v = v' := by
  obtain ⟨h1, q, h2, h3⟩ := h
  obtain ⟨g1, p, g2, g3⟩ := h'
  have e1 := fz_inv1 h2
  have e2 := fz_inv1 g2
  have e3 : fz s q = fz s p := by
    have : fz s q * fz s (2 ^ k) * fz s p = fz s p * fz s (2 ^ k) * fz s q := by grind
    rw [e1, e2, Fin.one_mul, Fin.one_mul] at this
    exact this.symm
  refine fz_inj h1 g1 ?_
  rw [h3, g3, e3]
/-- Where a list lies. -/
theorem Es.open {w : World} {oa : Option Addr} {n cn : Nat} {f : Nat → Nat} (h : Es w (.slice oa n cn) n f) : (oa = none ∧ n = 0 ∧ cn = 0) ∨ ∃ b o, oa = some ⟨b, o, none⟩ ∧ n ≤ cn ∧ cn ≤ maxLen ∧ b < w.heap.size ∧ ∀ i, i < n → ∀ j, j < 4 → w.cell? ⟨b, o + i * 4 + j, none⟩ = some (.int .u64 ((limb j (f i) : Nat) : Int)) := by
  rcases h with ⟨h, h0⟩ | ⟨b, o, c, h, h1, h2, h3, h4⟩
  · cases h; exact Or.inl ⟨rfl, rfl, rfl⟩
  · cases h; exact Or.inr ⟨b, o, rfl, h1, h2, h3, h4⟩
/-- Lagrange's value. -/
def lagV (s k i x : Nat) : Nat := (fz s (invU (modN s) (2 ^ k)) * pw2 (fz s x * fp (fz s (rootP s k)) (2 ^ k - i)) k).val
theorem lagV_ok (s k i x : Nat) (hk : k ≤ 9) : LagP s k i x (lagV s k i x) := by
  have hlt : lagV s k i x < modN s := by
    exact Nat.lt_of_lt_of_eq (fz s (invU (modN s) (2 ^ k)) * pw2 (fz s x * fp (fz s (rootP s k)) (2 ^ k - i)) k).isLt (mq_eq s)
  have hne : 2 ^ k % modN s ≠ 0 := by
    rw [Nat.mod_eq_of_lt (two_lt s k hk)]
    exact Nat.ne_of_gt (Nat.pow_pos (by decide))
  exact ⟨hlt, invU (modN s) (2 ^ k), invU_ok (modN_prime s) hne, Fin.ext (by rw [fz_val, Nat.mod_eq_of_lt hlt]; rfl)⟩
theorem lagV_M (s k i x : Nat) (hk : k ≤ 9) : lagV s k i x < 115792089237316195423570985008687907853269984665640564039457584007913129639936 := lt_M s _ (lagV_ok s k i x hk).1
theorem dlagV (s k i x : Nat) (hs : s < 4) (hk : k ≤ 9) (hi : i < 2 ^ k) (hx : x < 115792089237316195423570985008687907853269984665640564039457584007913129639936) (w : World) (hg : GlobD w) :
    Calls Tryz.prog 54 #[.int .i64 (s : Int), .int .i64 (k : Int), .int .i64 (i : Int), .agg #[.int .u64 ((limb 0 (x) : Nat) : Int), .int .u64 ((limb 1 (x) : Nat) : Int), .int .u64 ((limb 2 (x) : Nat) : Int), .int .u64 ((limb 3 (x) : Nat) : Int)]] w fun e w' => e = .returned (.tuple #[.agg #[.int .u64 ((limb 0 (lagV s k i x) : Nat) : Int), .int .u64 ((limb 1 (lagV s k i x) : Nat) : Int), .int .u64 ((limb 2 (lagV s k i x) : Nat) : Int), .int .u64 ((limb 3 (lagV s k i x) : Nat) : Int)], .int .i64 0]) ∧ Below w.heap.size w w' := by
  refine (dlag_in s k i x hs hk hi hx w hg).mono ?_
  rintro e w' ⟨⟨v, rfl, hv⟩, hb⟩
  rw [lag_same hv (lagV_ok s k i x hk)]
  exact ⟨rfl, hb⟩
set_option maxHeartbeats 2000000 in
set_option maxRecDepth 20000 in
/-- permute.element. -/
theorem pmel_any (s v : Nat) (hs : s < 4) (hv : v < 115792089237316195423570985008687907853269984665640564039457584007913129639936) (w : World) (hg : Glob w) :
    Calls Tryz.prog 55 #[.int .i64 (s : Int), .agg #[.int .u64 ((limb 0 (v) : Nat) : Int), .int .u64 ((limb 1 (v) : Nat) : Int), .int .u64 ((limb 2 (v) : Nat) : Int), .int .u64 ((limb 3 (v) : Nat) : Int)]] w fun e w' => e = .returned (.agg #[.int .u64 ((limb 0 (addP s v 0) : Nat) : Int), .int .u64 ((limb 1 (addP s v 0) : Nat) : Int), .int .u64 ((limb 2 (addP s v 0) : Nat) : Int), .int .u64 ((limb 3 (addP s v 0) : Nat) : Int)]) ∧ Below w.heap.size w w' := by
  have HAD : Hid (∀ w, Glob w → _) := fun w hg => fAdd_zero s v hs hv w hg
  obtain ⟨Z, eZ⟩ : ∃ z, z = addP s v 0 := ⟨_, rfl⟩
  rw [← eZ] at HAD ⊢
  have HG : Hid (Glob w) := hg
  clear hv hg eZ
  go_enter Tryz.func55, Tryz.ntmps55
  go_upto_region 1 with fail
  have hs1 : (w.alloc (.cells #[.int .u64 ((limb 0 (v) : Nat) : Int), .int .u64 ((limb 1 (v) : Nat) : Int), .int .u64 ((limb 2 (v) : Nat) : Int), .int .u64 ((limb 3 (v) : Nat) : Int)] 25)).heap.size = w.heap.size + 1 := Array.size_push ..
  obtain ⟨N3, e0⟩ : ∃ z, z = w.heap.size := ⟨_, rfl⟩
  obtain ⟨N4, e1⟩ : ∃ z, z = N3 + 1 := ⟨_, rfl⟩
  obtain ⟨w1, hw1⟩ : ∃ z : World, z = (w.alloc (.cells #[.int .u64 ((limb 0 (v) : Nat) : Int), .int .u64 ((limb 1 (v) : Nat) : Int), .int .u64 ((limb 2 (v) : Nat) : Int), .int .u64 ((limb 3 (v) : Nat) : Int)] 25)).alloc (.cells #[.int .u64 0, .int .u64 0, .int .u64 0, .int .u64 0] 25) := ⟨_, rfl⟩
  have b3 : Blk w1 25 N3 (fun i => limb i v) := by rw [hw1]; exact (Blk.newAt _ _ _ (fun i => limb i v) e0).alloc _
  have b4 : Blk w1 25 N4 (fun _ => 0) := by rw [hw1]; exact Blk.newAt _ _ _ (fun _ => 0) (by rw [e1, e0, hs1])
  have hb1 : Below w.heap.size w w1 := by rw [hw1]; exact bAlloc (bAlloc (Below.refl _ _) _) _
  rw [← hw1]
  try rw [← e0]
  try rw [← e1]
  have l3 : w.heap.size ≤ N3 := by omega
  have l4 : w.heap.size ≤ N4 := by omega
  have n3_4 : N3 ≠ N4 := by omega
  clear hw1 e0 e1 hs1
  have HG1 : Hid (Glob w1) := HG.out.below hb1
  have q3 := b3.cell
  go_wp2_with fail
  refine (HAD.out w1 HG1.out).mono ?_
  rintro e w2 ⟨rfl, hbx⟩
  have c4' := b4.belowAll hbx
  have hb2 := bStep hb1 hbx
  clear q3 b3 b4 hb1 hbx HAD HG1
  have c4 := c4'.cell; have f4 := c4'.frozen
  obtain ⟨w5, hw5, s4, hk5⟩ := c4'.put4 Z
  have hbe := bKept hb2 l4 hk5
  go_wp2
  have r0 := s4.cell 0 (by decide); have r1 := s4.cell 1 (by decide); have r2 := s4.cell 2 (by decide); have r3 := s4.cell 3 (by decide)
  refine bodyPost_ret (v := .agg #[.int .u64 ((limb 0 (Z) : Nat) : Int), .int .u64 ((limb 1 (Z) : Nat) : Int), .int .u64 ((limb 2 (Z) : Nat) : Int), .int .u64 ((limb 3 (Z) : Nat) : Int)]) (by simp [results, Tryz.results55, go_sem, r0, r1, r2, r3]) rfl ⟨rfl, ?_⟩
  exact hbe
/-- product.Check. -/
theorem pck_out (si k : Int) (hs : si < 0 ∨ 4 ≤ si) (w : World) :
    Calls Tryz.prog 23 #[.int .i64 si, .int .i64 k] w fun e w' => e = .returned (.int .i64 20) ∧ Below w.heap.size w w' := by
  have HM := fun w => fModulus_out si hs w
  clear hs
  go_enter Tryz.func23, Tryz.ntmps23
  go_wp2_with fail
  refine (HM w).mono ?_
  rintro e w1 ⟨rfl, hb⟩
  go_wp2
  go_ret
  exact ⟨rfl, bAlloc hb _⟩
theorem pck_in (s : Nat) (k : Int) (hs : s < 4) (w : World) (hg : Glob w) :
    Calls Tryz.prog 23 #[.int .i64 (s : Int), .int .i64 k] w fun e w' => e = .returned (.int .i64 (if k < 3 ∨ 5 < k then 60 else 0)) ∧ Below w.heap.size w w' := by
  have HM : Hid (∀ w, Glob w → _) := fun w hg => fModulus_any s hs w hg
  have HG : Hid (Glob w) := hg
  obtain ⟨M, eM⟩ : ∃ z, z = modN s := ⟨_, rfl⟩
  rw [← eM] at HM
  obtain ⟨si, esi⟩ : ∃ z : Int, z = (s : Int) := ⟨_, rfl⟩
  rw [← esi] at HM ⊢
  clear eM esi hs hg
  by_cases h3 : k < 3
  · rw [if_pos (Or.inl h3)]
    go_enter Tryz.func23, Tryz.ntmps23
    go_wp2_with fail
    refine (HM.out w HG.out).mono ?_
    rintro e w1 ⟨rfl, hb⟩
    clear HM HG
    go_wp2
    go_ret
    exact ⟨rfl, bAlloc hb _⟩
  by_cases h5 : (5 : Int) < k
  · rw [if_pos (Or.inr h5)]
    go_enter Tryz.func23, Tryz.ntmps23
    go_wp2_with fail
    refine (HM.out w HG.out).mono ?_
    rintro e w1 ⟨rfl, hb⟩
    clear HM HG
    go_wp2
    go_ret
    exact ⟨rfl, bAlloc hb _⟩
  · rw [if_neg (by omega)]
    go_enter Tryz.func23, Tryz.ntmps23
    go_wp2_with fail
    refine (HM.out w HG.out).mono ?_
    rintro e w1 ⟨rfl, hb⟩
    clear HM HG
    go_wp2
    go_ret
    exact ⟨rfl, bAlloc hb _⟩
/-- The sum of the first. -/
def sm (s : Nat) (f : Nat → Nat) : Nat → Nat
  | 0 => 0
  | n + 1 => addP s (sm s f n) (f n)
theorem sm_M (s : Nat) (f : Nat → Nat) (n : Nat) : sm s f n < 115792089237316195423570985008687907853269984665640564039457584007913129639936 := by
  cases n with
  | zero => show 0 < 115792089237316195423570985008687907853269984665640564039457584007913129639936; decide
  | succ n => exact lt_M s _ (addP_lt _ _ _)
set_option maxHeartbeats 4000000 in
set_option maxRecDepth 20000 in
/-- permute.sum. -/
theorem psum_any (s n cn : Nat) (oa : Option Addr) (f : Nat → Nat) (hs : s < 4) (hn : n ≤ 1000000) (hf : ∀ i, i < n → f i < 115792089237316195423570985008687907853269984665640564039457584007913129639936) (w : World) (hg : Glob w) (hv : Es w (.slice oa n cn) n f) :
    Calls Tryz.prog 56 #[.int .i64 (s : Int), .slice oa n cn] w fun e w' => e = .returned (.agg #[.int .u64 ((limb 0 (sm s f n) : Nat) : Int), .int .u64 ((limb 1 (sm s f n) : Nat) : Int), .int .u64 ((limb 2 (sm s f n) : Nat) : Int), .int .u64 ((limb 3 (sm s f n) : Nat) : Int)]) ∧ Below w.heap.size w w' := by
  have HADD : Hid (∀ a b, a < 115792089237316195423570985008687907853269984665640564039457584007913129639936 → b < 115792089237316195423570985008687907853269984665640564039457584007913129639936 → ∀ w, Glob w → Calls Tryz.prog 49 #[.int .i64 (s : Int), .agg #[.int .u64 ((limb 0 (a) : Nat) : Int), .int .u64 ((limb 1 (a) : Nat) : Int), .int .u64 ((limb 2 (a) : Nat) : Int), .int .u64 ((limb 3 (a) : Nat) : Int)], .agg #[.int .u64 ((limb 0 (b) : Nat) : Int), .int .u64 ((limb 1 (b) : Nat) : Int), .int .u64 ((limb 2 (b) : Nat) : Int), .int .u64 ((limb 3 (b) : Nat) : Int)]] w fun e w' => e = .returned (.agg #[.int .u64 ((limb 0 (addP s a b) : Nat) : Int), .int .u64 ((limb 1 (addP s a b) : Nat) : Int), .int .u64 ((limb 2 (addP s a b) : Nat) : Int), .int .u64 ((limb 3 (addP s a b) : Nat) : Int)]) ∧ Below w.heap.size w w') := fun a b ha hb w hg => fAdd_any s a b hs ha hb w hg
  have HG : Hid (Glob w) := hg
  have HV : Hid (Es w (.slice oa n cn) n f) := hv
  have HFM : Hid (∀ i, i < n → f i < 115792089237316195423570985008687907853269984665640564039457584007913129639936) := hf
  obtain ⟨si, esi⟩ : ∃ z : Int, z = (s : Int) := ⟨_, rfl⟩
  rw [← esi] at HADD ⊢
  clear hg hv hf esi hs
  go_enter Tryz.func56, Tryz.ntmps56
  go_upto_region 2 with fail
  have hs1 : (w.alloc (.cells #[.int .u64 0, .int .u64 0, .int .u64 0, .int .u64 0] 25)).heap.size = w.heap.size + 1 := Array.size_push ..
  obtain ⟨N4, e0⟩ : ∃ z, z = w.heap.size := ⟨_, rfl⟩
  obtain ⟨N5, e1⟩ : ∃ z, z = N4 + 1 := ⟨_, rfl⟩
  obtain ⟨w2, hw1⟩ : ∃ z : World, z = (w.alloc (.cells #[.int .u64 0, .int .u64 0, .int .u64 0, .int .u64 0] 25)).alloc (.cells #[.int .u64 0, .int .u64 0, .int .u64 0, .int .u64 0] 25) := ⟨_, rfl⟩
  have b4 : Blk w2 25 N4 (fun _ => 0) := by rw [hw1]; exact (Blk.newAt _ _ _ (fun _ => 0) e0).alloc _
  have b5 : Blk w2 25 N5 (fun _ => 0) := by rw [hw1]; exact Blk.newAt _ _ _ (fun _ => 0) (by rw [e1, e0, hs1])
  have hb2 : Below w.heap.size w w2 := by rw [hw1]; exact bAlloc (bAlloc (Below.refl _ _) _) _
  rw [← hw1]
  try rw [← e0]
  try rw [← e1]
  have l4 : w.heap.size ≤ N4 := by omega
  have l5 : w.heap.size ≤ N5 := by omega
  have n4_5 : N4 ≠ N5 := by omega
  clear hw1 e0 e1 hs1
  have HG2 : Hid (Glob w2) := HG.out.below hb2
  have b50 : Blk w2 25 N5 (fun i => limb i (sm s f 0)) := b5.congr (fun i _ => limb_zero i)
  clear b5
  go_wp2
  go_loopw [10] (fun iv wr => ∃ j : Nat, iv = .int .i64 (j : Int) ∧ j ≤ n ∧ Below w.heap.size w wr ∧ Blk wr 25 N4 (fun _ => 0) ∧ Blk wr 25 N5 (fun i => limb i (sm s f j))) (fun iv _ => n - (intOf iv).toNat)
  case atStart => exact ⟨0, rfl, Nat.zero_le _, hb2, b4, b50⟩
  case round =>
    obtain ⟨j, rfl, hj, hbr, p4, p5⟩ := hrel
    clear b4 b50 hb2 HG2
    by_cases hlt : j < n
    · have hji : (j : Int) < (n : Int) := by omega
      rcases HV.out.open with ⟨_, h0, _⟩ | ⟨ab, ao, rfl, _, _, lab, hc⟩
      · omega
      have hxm : f j < 115792089237316195423570985008687907853269984665640564039457584007913129639936 := HFM.out j hlt
      have c0 := (hbr.cell (p := ⟨ab, ao + j * 4 + 0, none⟩) lab).trans (hc j (by omega) 0 (by decide)); have c1 := (hbr.cell (p := ⟨ab, ao + j * 4 + 1, none⟩) lab).trans (hc j (by omega) 1 (by decide)); have c2 := (hbr.cell (p := ⟨ab, ao + j * 4 + 2, none⟩) lab).trans (hc j (by omega) 2 (by decide)); have c3 := (hbr.cell (p := ⟨ab, ao + j * 4 + 3, none⟩) lab).trans (hc j (by omega) 3 (by decide))
      rw [Nat.add_zero] at c0
      clear hc
      have HRC : Hid (sm s f (j + 1) = addP s (sm s f j) (f j)) := rfl
      have hvm : sm s f j < 115792089237316195423570985008687907853269984665640564039457584007913129639936 := sm_M _ _ _
      obtain ⟨x, ex⟩ : ∃ x, x = f j := ⟨_, rfl⟩
      rw [← ex] at c0 c1 c2 c3 hxm HRC
      obtain ⟨v, ev⟩ : ∃ v, v = sm s f j := ⟨_, rfl⟩
      rw [← ev] at p5 hvm HRC
      have HA : Hid (∀ w, Glob w → _) := HADD.out v x hvm hxm
      obtain ⟨y, ey⟩ : ∃ y, y = addP s v x := ⟨_, rfl⟩
      rw [← ey] at HA HRC
      clear ex ev ey hvm hxm
      go_upto_region 5 with fail
      obtain ⟨w3, hw3⟩ : ∃ z : World, z = wr.alloc (.cells #[.int .u64 ((limb 0 (x) : Nat) : Int), .int .u64 ((limb 1 (x) : Nat) : Int), .int .u64 ((limb 2 (x) : Nat) : Int), .int .u64 ((limb 3 (x) : Nat) : Int)] 25) := ⟨_, rfl⟩
      obtain ⟨N7, e7⟩ : ∃ z, z = wr.heap.size := ⟨_, rfl⟩
      have b7 : Blk w3 25 N7 (fun i => limb i x) := by rw [hw3]; exact Blk.newAt _ _ _ (fun i => limb i x) e7
      have hbn : Below wr.heap.size wr w3 := by rw [hw3]; exact bAlloc (Below.refl _ _) _
      have q4 := p4.belowAll hbn; have q5 := p5.belowAll hbn
      have hb3 := bStep hbr hbn
      rw [← hw3]
      try rw [← e7]
      clear hw3 e7 hbn p4 p5 hbr c0 c1 c2 c3
      have k5 := q5.cell; have k7 := b7.cell
      go_wp2_with fail
      refine (HA.out w3 (HG.out.below hb3)).mono ?_
      rintro e w4 ⟨rfl, hb⟩
      have r4 := q4.belowAll hb; have r5 := q5.belowAll hb
      have hb4 := bStep hb3 hb
      clear hb q4 q5 hb3 k5 k7 b7
      have k5 := r5.cell; have f5 := r5.frozen
      obtain ⟨w5, hw5, s5, hk5⟩ := r5.put4 y
      have s4 := r4.kept n4_5 hk5
      have hb5 := bKept hb4 l5 hk5
      have s5' : Blk w5 25 N5 (fun i => limb i (sm s f (j + 1))) := by rw [HRC.out]; exact s5
      clear hk5 r4 hb4 HRC
      go_wp2
      go_roundw
      case measure => simp [intOf]; omega
      case rel => exact ⟨j + 1, by go_num, by omega, hb5, s4, s5'⟩
    · have hji : ¬ (j : Int) < (n : Int) := by omega
      obtain rfl : j = n := by omega
      obtain ⟨v, ev⟩ : ∃ v, v = sm s f j := ⟨_, rfl⟩
      rw [← ev] at p5
      have HEV : Hid (v = sm s f j) := ev
      clear ev
      have k5 := p5.cell
      have k4 := p4.cell; have f4 := p4.frozen
      obtain ⟨w5, hw5, s4, hk⟩ := p4.put4 v
      have hbe := bKept hbr l4 hk
      clear hk
      have r4 := s4.cell
      go_wp2
      have r0 := s4.cell 0 (by decide); have r1 := s4.cell 1 (by decide); have r2 := s4.cell 2 (by decide); have r3 := s4.cell 3 (by decide)
      refine bodyPost_ret (v := .agg #[.int .u64 ((limb 0 (v) : Nat) : Int), .int .u64 ((limb 1 (v) : Nat) : Int), .int .u64 ((limb 2 (v) : Nat) : Int), .int .u64 ((limb 3 (v) : Nat) : Int)]) (by simp [results, Tryz.results56, go_sem, r0, r1, r2, r3]) rfl ⟨by rw [HEV.out], hbe⟩
end Go.Proofs.YtfbfenljfdnggaaGreatDoor

/- permute.Place. -/
namespace Go.Proofs.YtfbfenljfdnggaaGreatDoor
open Go.RowKit
set_option maxHeartbeats 4000000 in
theorem usable_any (k : Int) (w : World) : Calls Tryz.prog 53 #[.int .i64 k] w fun e w' => e = .returned (.int .i64 (if 2 ≤ k ∧ k ≤ 30 then 2 ^ k.toNat - 4 else 0)) ∧ w' = w := by
  by_cases h2 : k < 2
  · rw [if_neg (by omega)]
    go_enter Tryz.func53, Tryz.ntmps53
    go_wp2
    go_ret
    exact ⟨rfl, rfl⟩
  · by_cases h30 : 30 < k
    · rw [if_neg (by omega)]
      go_enter Tryz.func53, Tryz.ntmps53
      go_wp2
      go_ret
      exact ⟨rfl, rfl⟩
    · rw [if_pos (by omega)]
      obtain ⟨q, rfl⟩ : ∃ q : Nat, k = q := ⟨k.toNat, by omega⟩
      have hq : 2 ≤ q ∧ q ≤ 30 := by omega
      have hk0 : ¬ (q : Int) < 0 := by omega
      have e1 : (2 : Int) ^ q = ((2 ^ q : Nat) : Int) := by simp
      have hP : 4 ≤ 2 ^ q ∧ 2 ^ q ≤ 1073741824 := ⟨Nat.pow_le_pow_right (n := 2) (by decide) hq.1, Nat.pow_le_pow_right (n := 2) (by decide) hq.2⟩
      obtain ⟨P, eP⟩ : ∃ P, P = 2 ^ q := ⟨_, rfl⟩
      rw [← eP] at e1 hP
      have hkw : IntKind.i64.wrap ((2 : Int) ^ q) = (P : Int) := by rw [e1]; simp [IntKind.wrap, IntKind.bits, IntKind.signed]; omega
      have HE : Hid ((2 : Int) ^ q = (P : Int)) := e1
      clear eP e1
      go_enter Tryz.func53, Tryz.ntmps53
      go_wp2
      go_ret
      exact ⟨by rw [HE.out]; rfl, rfl⟩
/-- An element's four cells. -/
def Rd4 (w : World) (b o x : Nat) : Prop := w.cell? ⟨b, o, none⟩ = some (.int .u64 ((limb 0 x : Nat) : Int)) ∧ w.cell? ⟨b, o + 1, none⟩ = some (.int .u64 ((limb 1 x : Nat) : Int)) ∧ w.cell? ⟨b, o + 2, none⟩ = some (.int .u64 ((limb 2 x : Nat) : Int)) ∧ w.cell? ⟨b, o + 3, none⟩ = some (.int .u64 ((limb 3 x : Nat) : Int))
theorem Rd4.below {w w' : World} {b o x m : Nat} (h : Rd4 w b o x) (hb : Below m w w') (hm : b < m) : Rd4 w' b o x :=
  ⟨(hb.cell (p := ⟨b, o, none⟩) hm).trans h.1, (hb.cell (p := ⟨b, o + 1, none⟩) hm).trans h.2.1, (hb.cell (p := ⟨b, o + 2, none⟩) hm).trans h.2.2.1, (hb.cell (p := ⟨b, o + 3, none⟩) hm).trans h.2.2.2⟩
theorem Rd4.kept {w w' : World} {b o x g : Nat} (h : Rd4 w b o x) (hl : b < w.heap.size) (hne : b ≠ g) (hk : Kept g w w') : Rd4 w' b o x := by
  obtain ⟨h0, h1, h2, h3⟩ := h
  have hb := hk.block b hl hne
  simp only [World.cell?] at h0 h1 h2 h3
  exact ⟨by simp only [World.cell?, hb]; exact h0, by simp only [World.cell?, hb]; exact h1, by simp only [World.cell?, hb]; exact h2, by simp only [World.cell?, hb]; exact h3⟩
theorem Lay.fr {w : World} {t : TypeId} {b : Nat} {cs : Array Value} (h : Lay w t b cs) : ∀ o, w.frozen? ⟨b, o, none⟩ = false := by intro o; unfold Lay at h; simp [World.frozen?, h]
theorem Lay.put16 {w : World} {t : TypeId} {b : Nat} {x0 x1 x2 x3 x4 x5 x6 x7 x8 x9 x10 x11 x12 x13 x14 x15 : Value} (h : Lay w t b #[x0, x1, x2, x3, x4, x5, x6, x7, x8, x9, x10, x11, x12, x13, x14, x15]) (v0 v1 v2 v3 v4 v5 v6 v7 v8 v9 v10 v11 v12 v13 v14 v15 : Value) : ∃ w', (((((((((((((((w.setCell ⟨b, 0, none⟩ v0).setCell ⟨b, 1, none⟩ v1).setCell ⟨b, 2, none⟩ v2).setCell ⟨b, 3, none⟩ v3).setCell ⟨b, 4, none⟩ v4).setCell ⟨b, 5, none⟩ v5).setCell ⟨b, 6, none⟩ v6).setCell ⟨b, 7, none⟩ v7).setCell ⟨b, 8, none⟩ v8).setCell ⟨b, 9, none⟩ v9).setCell ⟨b, 10, none⟩ v10).setCell ⟨b, 11, none⟩ v11).setCell ⟨b, 12, none⟩ v12).setCell ⟨b, 13, none⟩ v13).setCell ⟨b, 14, none⟩ v14).setCell ⟨b, 15, none⟩ v15 = w' ∧ Lay w' t b #[v0, v1, v2, v3, v4, v5, v6, v7, v8, v9, v10, v11, v12, v13, v14, v15] ∧ Kept b w w' :=
  ⟨_, rfl, by unfold Lay at h ⊢; simp [World.setCell, Array.getElem?_modify, h], ((((((((((((((((Kept.refl _ _).setCell 0 _).setCell 1 _).setCell 2 _).setCell 3 _).setCell 4 _).setCell 5 _).setCell 6 _).setCell 7 _).setCell 8 _).setCell 9 _).setCell 10 _).setCell 11 _).setCell 12 _).setCell 13 _).setCell 14 _).setCell 15 _⟩
theorem Lay.cells16 {w : World} {t : TypeId} {b : Nat} {x0 x1 x2 x3 x4 x5 x6 x7 x8 x9 x10 x11 x12 x13 x14 x15 : Value} (h : Lay w t b #[x0, x1, x2, x3, x4, x5, x6, x7, x8, x9, x10, x11, x12, x13, x14, x15]) : w.cell? ⟨b, 0, none⟩ = some x0 ∧ w.cell? ⟨b, 1, none⟩ = some x1 ∧ w.cell? ⟨b, 2, none⟩ = some x2 ∧ w.cell? ⟨b, 3, none⟩ = some x3 ∧ w.cell? ⟨b, 4, none⟩ = some x4 ∧ w.cell? ⟨b, 5, none⟩ = some x5 ∧ w.cell? ⟨b, 6, none⟩ = some x6 ∧ w.cell? ⟨b, 7, none⟩ = some x7 ∧ w.cell? ⟨b, 8, none⟩ = some x8 ∧ w.cell? ⟨b, 9, none⟩ = some x9 ∧ w.cell? ⟨b, 10, none⟩ = some x10 ∧ w.cell? ⟨b, 11, none⟩ = some x11 ∧ w.cell? ⟨b, 12, none⟩ = some x12 ∧ w.cell? ⟨b, 13, none⟩ = some x13 ∧ w.cell? ⟨b, 14, none⟩ = some x14 ∧ w.cell? ⟨b, 15, none⟩ = some x15 :=
  ⟨h.at (o := 0) rfl, h.at (o := 1) rfl, h.at (o := 2) rfl, h.at (o := 3) rfl, h.at (o := 4) rfl, h.at (o := 5) rfl, h.at (o := 6) rfl, h.at (o := 7) rfl, h.at (o := 8) rfl, h.at (o := 9) rfl, h.at (o := 10) rfl, h.at (o := 11) rfl, h.at (o := 12) rfl, h.at (o := 13) rfl, h.at (o := 14) rfl, h.at (o := 15) rfl⟩
set_option maxHeartbeats 8000000 in
set_option maxRecDepth 20000 in
/-- permute.Place. -/
theorem place_ok (si k : Int) (U x X V : Nat) (lg : Nat → Nat) (hU : 0 < U ∧ U ≤ 1000) (w : World) (hg : GlobD w) (hc : ∀ w, GlobD w → Calls Tryz.prog 23 #[.int .i64 si, .int .i64 k] w fun e w' => e = .returned (.int .i64 0) ∧ Below w.heap.size w w')
    (hu : ∀ w, Calls Tryz.prog 53 #[.int .i64 k] w fun e w' => e = .returned (.int .i64 (U : Int)) ∧ w' = w)
    (hl : ∀ i : Nat, i < U + 1 → ∀ w, GlobD w → Calls Tryz.prog 54 #[.int .i64 si, .int .i64 k, .int .i64 (i : Int), .agg #[.int .u64 ((limb 0 (x) : Nat) : Int), .int .u64 ((limb 1 (x) : Nat) : Int), .int .u64 ((limb 2 (x) : Nat) : Int), .int .u64 ((limb 3 (x) : Nat) : Int)]] w fun e w' => e = .returned (.tuple #[.agg #[.int .u64 ((limb 0 (lg i) : Nat) : Int), .int .u64 ((limb 1 (lg i) : Nat) : Int), .int .u64 ((limb 2 (lg i) : Nat) : Int), .int .u64 ((limb 3 (lg i) : Nat) : Int)], .int .i64 0]) ∧ Below w.heap.size w w')
    (he : ∀ w, GlobD w → Calls Tryz.prog 55 #[.int .i64 si, .agg #[.int .u64 ((limb 0 (x) : Nat) : Int), .int .u64 ((limb 1 (x) : Nat) : Int), .int .u64 ((limb 2 (x) : Nat) : Int), .int .u64 ((limb 3 (x) : Nat) : Int)]] w fun e w' => e = .returned (.agg #[.int .u64 ((limb 0 (X) : Nat) : Int), .int .u64 ((limb 1 (X) : Nat) : Int), .int .u64 ((limb 2 (X) : Nat) : Int), .int .u64 ((limb 3 (X) : Nat) : Int)]) ∧ Below w.heap.size w w')
    (hs : ∀ (G c : Nat) w, GlobD w → Es w (.slice (some ⟨G, 0, none⟩) U c) U lg → Calls Tryz.prog 56 #[.int .i64 si, .slice (some ⟨G, 0, none⟩) U c] w fun e w' => e = .returned (.agg #[.int .u64 ((limb 0 (V) : Nat) : Int), .int .u64 ((limb 1 (V) : Nat) : Int), .int .u64 ((limb 2 (V) : Nat) : Int), .int .u64 ((limb 3 (V) : Nat) : Int)]) ∧ Below w.heap.size w w') :
    Calls Tryz.prog 21 #[.int .i64 si, .int .i64 k, .agg #[.int .u64 ((limb 0 (x) : Nat) : Int), .int .u64 ((limb 1 (x) : Nat) : Int), .int .u64 ((limb 2 (x) : Nat) : Int), .int .u64 ((limb 3 (x) : Nat) : Int)]] w fun e w' => e = .returned (.tuple #[.agg #[.int .u64 ((limb 0 X : Nat) : Int), .int .u64 ((limb 1 X : Nat) : Int), .int .u64 ((limb 2 X : Nat) : Int), .int .u64 ((limb 3 X : Nat) : Int), .int .u64 ((limb 0 (lg 0) : Nat) : Int), .int .u64 ((limb 1 (lg 0) : Nat) : Int), .int .u64 ((limb 2 (lg 0) : Nat) : Int), .int .u64 ((limb 3 (lg 0) : Nat) : Int), .int .u64 ((limb 0 (lg U) : Nat) : Int), .int .u64 ((limb 1 (lg U) : Nat) : Int), .int .u64 ((limb 2 (lg U) : Nat) : Int), .int .u64 ((limb 3 (lg U) : Nat) : Int), .int .u64 ((limb 0 V : Nat) : Int), .int .u64 ((limb 1 V : Nat) : Int), .int .u64 ((limb 2 V : Nat) : Int), .int .u64 ((limb 3 V : Nat) : Int)], .int .i64 0]) ∧ Below w.heap.size w w' := by
  obtain ⟨i0, hi, hz0, hz1, hz2⟩ := elemInfo
  have HI := (show Hid _ from hi); have HZ := (show Hid _ from And.intro hz0 (And.intro hz1 hz2)); clear hi hz0 hz1 hz2
  have HC : Hid (∀ w, GlobD w → _) := hc
  have HU : Hid (∀ w, Calls Tryz.prog 53 #[.int .i64 k] w fun e w' => e = .returned (.int .i64 (U : Int)) ∧ w' = w) := hu
  have HL : Hid (∀ i : Nat, i < U + 1 → ∀ w, GlobD w → _) := hl
  have HE : Hid (∀ w, GlobD w → _) := he
  have HS : Hid (∀ (G c : Nat) w, GlobD w → _) := hs
  have HG : Hid (GlobD w) := hg
  obtain ⟨n, en⟩ : ∃ n, n = U + 1 := ⟨_, rfl⟩
  have hnw : IntKind.i64.wrap ((U : Int) + 1) = (n : Int) := by rw [en, show (U : Int) + 1 = ((U + 1 : Nat) : Int) from by omega]; exact wrap_i64_nat (U + 1) (by omega)
  rw [← en] at HL
  have HN : Hid (n = U + 1 ∧ 0 < U ∧ U ≤ 1000) := ⟨en, hU⟩
  have hn1 : n ≤ 1001 := by omega
  clear hc hu hl he hs hg en hU
  go_enter Tryz.func21, Tryz.ntmps21
  go_upto_region 1 with fail
  have hs1 : (w.alloc (.cells #[.int .u64 ((limb 0 (x) : Nat) : Int), .int .u64 ((limb 1 (x) : Nat) : Int), .int .u64 ((limb 2 (x) : Nat) : Int), .int .u64 ((limb 3 (x) : Nat) : Int)] 25)).heap.size = w.heap.size + 1 := Array.size_push ..
  obtain ⟨N5, e0⟩ : ∃ z, z = w.heap.size := ⟨_, rfl⟩
  obtain ⟨N6, e1⟩ : ∃ z, z = N5 + 1 := ⟨_, rfl⟩
  obtain ⟨w1, hw1⟩ : ∃ z : World, z = (w.alloc (.cells #[.int .u64 ((limb 0 (x) : Nat) : Int), .int .u64 ((limb 1 (x) : Nat) : Int), .int .u64 ((limb 2 (x) : Nat) : Int), .int .u64 ((limb 3 (x) : Nat) : Int)] 25)).alloc (.cells #[.int .u64 0, .int .u64 0, .int .u64 0, .int .u64 0, .int .u64 0, .int .u64 0, .int .u64 0, .int .u64 0, .int .u64 0, .int .u64 0, .int .u64 0, .int .u64 0, .int .u64 0, .int .u64 0, .int .u64 0, .int .u64 0] 67) := ⟨_, rfl⟩
  have b5 : Blk w1 25 N5 (fun i => limb i x) := by rw [hw1]; exact (Blk.newAt _ _ _ (fun i => limb i x) e0).alloc _
  have b6 : Lay w1 67 N6 #[.int .u64 0, .int .u64 0, .int .u64 0, .int .u64 0, .int .u64 0, .int .u64 0, .int .u64 0, .int .u64 0, .int .u64 0, .int .u64 0, .int .u64 0, .int .u64 0, .int .u64 0, .int .u64 0, .int .u64 0, .int .u64 0] := by rw [hw1]; exact Lay.newAt _ _ _ (by rw [e1, e0, hs1])
  have hb1 : Below w.heap.size w w1 := by rw [hw1]; exact bAlloc (bAlloc (Below.refl _ _) _) _
  rw [← hw1]
  try rw [← e0]
  try rw [← e1]
  have l5 : w.heap.size ≤ N5 := by omega
  have l6 : w.heap.size ≤ N6 := by omega
  have n5_6 : N5 ≠ N6 := by omega
  clear hw1 e0 e1 hs1
  have HG1 : Hid (GlobD w1) := HG.out.below hb1
  go_wp2_with fail
  refine (HC.out w1 HG1.out).mono ?_
  rintro e w2 ⟨rfl, hbx⟩
  have c5 := b5.belowAll hbx; have c6 := b6.belowAll hbx
  have hb2 := bStep hb1 hbx
  clear b5 b6 hb1 hbx HC HG1
  go_wp2_with fail
  refine (HU.out w2).mono ?_
  rintro e w3 ⟨rfl, he3⟩
  subst he3
  go_wp2_with (first
    | (at_make; refine wpList_make_full _ rfl _ _ 26 rfl w3.heap.size 25 i0 (.agg #[.int .u64 0, .int .u64 0, .int .u64 0, .int .u64 0]) 4 Tryz.underlying26 HI.out HZ.out.1 HZ.out.2.1 .i64 .i64 n n n rfl rfl rfl rfl ?c1 ?c2 (Nat.le_refl _) ?_)
    | go_in)
  case c1 => rw [HZ.out.2.2]; omega
  case c2 => unfold maxLen; omega
  intro w5 hown hgrow
  obtain ⟨G, eG⟩ : ∃ G, G = w3.heap.size := ⟨_, rfl⟩
  rw [← eG] at hown ⊢
  have bo := (own_blkE (f := fun _ => 0) hown (fun i hi j hj => by rw [made_zero n (i * 4 + j) (by omega), limb_zero]; rfl)).1
  have hbe := (Below.refl _ w3).grown hgrow (Nat.le_refl _) (fun j hj => by cases hj)
  have hb5 := bStep hb2 hbe
  have lG : w.heap.size ≤ G := by rw [eG]; exact hb2.size
  have d5 := c5.belowAll hbe; have d6 := c6.belowAll hbe
  have n5G : N5 ≠ G := by have := c5.lt; omega
  have n6G : N6 ≠ G := by have := c6.lt; omega
  clear hown hgrow hbe c5 c6 hb2 eG HI HZ hnw
  go_wp2
  go_loopw [28] (fun iv wr => ∃ j : Nat, iv = .int .i64 (j : Int) ∧ j ≤ n ∧ BlkE wr G n (fun i => if i < j then lg i else 0) ∧ Below w.heap.size w wr ∧ Blk wr 25 N5 (fun i => limb i x) ∧ Lay wr 67 N6 #[.int .u64 0, .int .u64 0, .int .u64 0, .int .u64 0, .int .u64 0, .int .u64 0, .int .u64 0, .int .u64 0, .int .u64 0, .int .u64 0, .int .u64 0, .int .u64 0, .int .u64 0, .int .u64 0, .int .u64 0, .int .u64 0]) (fun iv _ => n - (intOf iv).toNat)
  case atStart => exact ⟨0, rfl, Nat.zero_le _, bo.congr (fun i hi => by rw [if_neg (Nat.not_lt_zero i)]), hb5, d5, d6⟩
  case round =>
    obtain ⟨j, rfl, hj, bg, hbr, p5, p6⟩ := hrel
    clear bo hb5 d5 d6
    by_cases hlt : j < n
    · have hji : (j : Int) < (n : Int) := by omega
      have HLJ : Hid (∀ w, GlobD w → Calls Tryz.prog 54 #[.int .i64 si, .int .i64 k, .int .i64 (j : Int), .agg #[.int .u64 ((limb 0 (x) : Nat) : Int), .int .u64 ((limb 1 (x) : Nat) : Int), .int .u64 ((limb 2 (x) : Nat) : Int), .int .u64 ((limb 3 (x) : Nat) : Int)]] w fun e w' => e = .returned (.tuple #[.agg #[.int .u64 ((limb 0 (lg j) : Nat) : Int), .int .u64 ((limb 1 (lg j) : Nat) : Int), .int .u64 ((limb 2 (lg j) : Nat) : Int), .int .u64 ((limb 3 (lg j) : Nat) : Int)], .int .i64 0]) ∧ Below w.heap.size w w') := HL.out j hlt
      obtain ⟨y, ey⟩ : ∃ y, y = lg j := ⟨_, rfl⟩
      rw [← ey] at HLJ
      have HY : Hid (y = lg j) := ey
      clear ey
      have k5 := p5.cell
      go_wp2_with fail
      refine (HLJ.out wr (HG.out.below hbr)).mono ?_
      rintro e w6 ⟨rfl, hb⟩
      have q5 := p5.belowAll hb; have q6 := p6.belowAll hb; have bg6 := bg.belowAll hb
      have hb6 := bStep hbr hb
      clear hb p5 p6 bg hbr k5 HLJ
      go_upto_region 10 with fail
      obtain ⟨wa, hwa⟩ : ∃ z : World, z = w6.alloc (.cells #[.int .u64 ((limb 0 (y) : Nat) : Int), .int .u64 ((limb 1 (y) : Nat) : Int), .int .u64 ((limb 2 (y) : Nat) : Int), .int .u64 ((limb 3 (y) : Nat) : Int)] 25) := ⟨_, rfl⟩
      obtain ⟨N12, e12⟩ : ∃ z, z = w6.heap.size := ⟨_, rfl⟩
      have b12 : Blk wa 25 N12 (fun i => limb i y) := by rw [hwa]; exact Blk.newAt _ _ _ (fun i => limb i y) e12
      have hbn : Below w6.heap.size w6 wa := by rw [hwa]; exact bAlloc (Below.refl _ _) _
      have r5 := q5.belowAll hbn; have r6 := q6.belowAll hbn; have bga := bg6.belowAll hbn
      have hba := bStep hb6 hbn
      rw [← hwa]
      try rw [← e12]
      clear hwa e12 hbn q5 q6 bg6 hb6
      have k12 := b12.cell
      have g0 := bga.cell j hlt 0 (by decide); have g1 := bga.cell j hlt 1 (by decide); have g2 := bga.cell j hlt 2 (by decide); have g3 := bga.cell j hlt 3 (by decide)
      rw [Nat.add_zero] at g0
      have fg := bga.frozen
      obtain ⟨wb, hwb, bgb, hkb⟩ := bga.put hlt y
      have hbb := bKept hba lG hkb
      have s5 := r5.kept n5G hkb; have s6 := r6.kept n6G hkb
      have HBG : Hid (BlkE wb G n (fun i => if i < j + 1 then lg i else 0)) := bgb.congr (fun i hi => by
        by_cases h1 : i = j
        · subst h1; rw [if_pos (Nat.lt_succ_self i), if_pos rfl]; exact HY.out.symm
        · by_cases h2 : i < j
          · rw [if_pos (show i < j + 1 by omega), if_neg h1, if_pos h2]
          · rw [if_neg (show ¬ i < j + 1 by omega), if_neg h1, if_neg h2])
      clear bgb hkb hba b12 r5 r6 HY
      go_wp2
      go_roundw
      case measure => simp [intOf]; omega
      case rel => exact ⟨j + 1, by go_num, by omega, HBG.out, hbb, s5, s6⟩
    · have hji : ¬ (j : Int) < (n : Int) := by omega
      obtain rfl : n = j := by omega
      have bG : BlkE wr G n lg := bg.congr (fun i hi => by rw [if_pos hi])
      have hUn : U < n := by have := HN.out; omega
      have h0n : 0 < n := by omega
      have hUi : (U : Int) < (n : Int) := by omega
      have hUl : (U : Int) ≤ (n : Int) := by omega
      have h0i : (0 : Int) < (n : Int) := by omega
      have K0 : Rd4 wr N5 0 x := by have c := p5.cell; exact ⟨c 0 (by decide), c 1 (by decide), c 2 (by decide), c 3 (by decide)⟩
      have K1 : Rd4 wr G 0 (lg 0) := by have c := bG.cell 0 h0n; have c0 := c 0 (by decide); have c1 := c 1 (by decide); have c2 := c 2 (by decide); have c3 := c 3 (by decide); simp only [Nat.zero_mul, Nat.zero_add] at c0 c1 c2 c3; exact ⟨c0, c1, c2, c3⟩
      have K2 : Rd4 wr G (U * 4) (lg U) := by have c := bG.cell U hUn; exact ⟨c 0 (by decide), c 1 (by decide), c 2 (by decide), c 3 (by decide)⟩
      have kl0 : N5 < wr.heap.size := p5.lt
      have kl1 : G < wr.heap.size := bG.lt
      have HB : Hid (BlkE wr G n lg) := bG
      have hGw : Hid (GlobD wr) := HG.out.below hbr
      obtain ⟨l, el⟩ : ∃ z, z = lg 0 := ⟨_, rfl⟩
      obtain ⟨u, eu⟩ : ∃ z, z = lg U := ⟨_, rfl⟩
      rw [← el] at K1
      rw [← eu] at K2
      have HLU : Hid (l = lg 0 ∧ u = lg U) := ⟨el, eu⟩
      clear el eu bg bG p5
      go_upto_region 14 with fail
      refine wp_region_Z (fun w' => Rd4 w' N5 0 x ∧ Rd4 w' G 0 l ∧ Rd4 w' G (U * 4) u) 99 (by kernel_rfl) ?_
      obtain ⟨wD, hD⟩ : ∃ z : World, z = wr.drew := ⟨_, rfl⟩
      rw [← hD]
      have lowD : Below wr.heap.size wr wD := by rw [hD]; exact (Below.refl _ _).drew
      clear hD
      have HS0 : Rd4 wD N5 0 x ∧ Rd4 wD G 0 l ∧ Rd4 wD G (U * 4) u := ⟨K0.below lowD kl0, K1.below lowD kl1, K2.below lowD kl1⟩
      refine wpZ_take (i := 0) (v := .int .i64 si) 48 rfl rfl (by kernel_rfl) (by kernel_rfl) (by kernel_rfl) (Or.inr (by decide)) (fun _ _ _ h => h) (Or.inl ⟨by rfl, fun w hSw => by go_simp⟩) HS0 ?_
      simp only [Act.put, List.setIfInBounds_toArray]
      try dsimp only [List.set_cons_zero, List.set_cons_succ]
      refine wpZ_take (i := 1) (v := .agg #[.int .u64 ((limb 0 (x) : Nat) : Int), .int .u64 ((limb 1 (x) : Nat) : Int), .int .u64 ((limb 2 (x) : Nat) : Int), .int .u64 ((limb 3 (x) : Nat) : Int)]) 49 rfl rfl (by kernel_rfl) (by kernel_rfl) (by kernel_rfl) (Or.inr (by decide)) (fun _ _ _ h => h) (Or.inl ⟨by rfl, fun w hSw => by (obtain ⟨q0, q1, q2, q3⟩ : w.cell? ⟨N5, 0, none⟩ = _ ∧ w.cell? ⟨N5, 1, none⟩ = _ ∧ w.cell? ⟨N5, 2, none⟩ = _ ∧ w.cell? ⟨N5, 3, none⟩ = _ := hSw.1; clear hSw; go_simp)⟩) HS0 ?_
      simp only [Act.put, List.setIfInBounds_toArray]
      try dsimp only [List.set_cons_zero, List.set_cons_succ]
      refine wpZ_take (i := 3) (v := .slice (some ⟨G, 0, none⟩) n n) 51 rfl rfl (by kernel_rfl) (by kernel_rfl) (by kernel_rfl) (Or.inr (by decide)) (fun _ _ _ h => h) (Or.inl ⟨by rfl, fun w hSw => by go_simp⟩) HS0 ?_
      simp only [Act.put, List.setIfInBounds_toArray]
      try dsimp only [List.set_cons_zero, List.set_cons_succ]
      refine wpZ_take (i := 4) (v := .pointer (some ⟨G, 0, none⟩)) 52 rfl rfl (by kernel_rfl) (by kernel_rfl) (by kernel_rfl) (Or.inr (by decide)) (fun _ _ _ h => h) (Or.inl ⟨by rfl, fun w hSw => by go_simp⟩) HS0 ?_
      simp only [Act.put, List.setIfInBounds_toArray]
      try dsimp only [List.set_cons_zero, List.set_cons_succ]
      refine wpZ_take (i := 5) (v := .agg #[.int .u64 ((limb 0 (l) : Nat) : Int), .int .u64 ((limb 1 (l) : Nat) : Int), .int .u64 ((limb 2 (l) : Nat) : Int), .int .u64 ((limb 3 (l) : Nat) : Int)]) 53 rfl rfl (by kernel_rfl) (by kernel_rfl) (by kernel_rfl) (Or.inr (by decide)) (fun _ _ _ h => h) (Or.inl ⟨by rfl, fun w hSw => by (obtain ⟨q0, q1, q2, q3⟩ : w.cell? ⟨G, 0, none⟩ = _ ∧ w.cell? ⟨G, 1, none⟩ = _ ∧ w.cell? ⟨G, 2, none⟩ = _ ∧ w.cell? ⟨G, 3, none⟩ = _ := hSw.2.1; clear hSw; go_simp)⟩) HS0 ?_
      simp only [Act.put, List.setIfInBounds_toArray]
      try dsimp only [List.set_cons_zero, List.set_cons_succ]
      refine wpZ_take (i := 6) (v := .slice (some ⟨G, 0, none⟩) n n) 54 rfl rfl (by kernel_rfl) (by kernel_rfl) (by kernel_rfl) (Or.inr (by decide)) (fun _ _ _ h => h) (Or.inl ⟨by rfl, fun w hSw => by go_simp⟩) HS0 ?_
      simp only [Act.put, List.setIfInBounds_toArray]
      try dsimp only [List.set_cons_zero, List.set_cons_succ]
      refine wpZ_take (i := 7) (v := .int .i64 (U : Int)) 55 rfl rfl (by kernel_rfl) (by kernel_rfl) (by kernel_rfl) (Or.inr (by decide)) (fun _ _ _ h => h) (Or.inl ⟨by rfl, fun w hSw => by go_simp⟩) HS0 ?_
      simp only [Act.put, List.setIfInBounds_toArray]
      try dsimp only [List.set_cons_zero, List.set_cons_succ]
      refine wpZ_take (i := 8) (v := .pointer (some ⟨G, U * 4, none⟩)) 56 rfl rfl (by kernel_rfl) (by kernel_rfl) (by kernel_rfl) (Or.inr (by decide)) (fun _ _ _ h => h) (Or.inl ⟨by rfl, fun w hSw => by go_simp⟩) HS0 ?_
      simp only [Act.put, List.setIfInBounds_toArray]
      try dsimp only [List.set_cons_zero, List.set_cons_succ]
      refine wpZ_take (i := 9) (v := .agg #[.int .u64 ((limb 0 (u) : Nat) : Int), .int .u64 ((limb 1 (u) : Nat) : Int), .int .u64 ((limb 2 (u) : Nat) : Int), .int .u64 ((limb 3 (u) : Nat) : Int)]) 57 rfl rfl (by kernel_rfl) (by kernel_rfl) (by kernel_rfl) (Or.inr (by decide)) (fun _ _ _ h => h) (Or.inl ⟨by rfl, fun w hSw => by (obtain ⟨q0, q1, q2, q3⟩ : w.cell? ⟨G, U * 4, none⟩ = _ ∧ w.cell? ⟨G, U * 4 + 1, none⟩ = _ ∧ w.cell? ⟨G, U * 4 + 2, none⟩ = _ ∧ w.cell? ⟨G, U * 4 + 3, none⟩ = _ := hSw.2.2; clear hSw; go_simp)⟩) HS0 ?_
      simp only [Act.put, List.setIfInBounds_toArray]
      try dsimp only [List.set_cons_zero, List.set_cons_succ]
      refine wpZ_take (i := 10) (v := .int .i64 si) 58 rfl rfl (by kernel_rfl) (by kernel_rfl) (by kernel_rfl) (Or.inr (by decide)) (fun _ _ _ h => h) (Or.inl ⟨by rfl, fun w hSw => by go_simp⟩) HS0 ?_
      simp only [Act.put, List.setIfInBounds_toArray]
      try dsimp only [List.set_cons_zero, List.set_cons_succ]
      refine wpZ_take (i := 11) (v := .slice (some ⟨G, 0, none⟩) n n) 59 rfl rfl (by kernel_rfl) (by kernel_rfl) (by kernel_rfl) (Or.inr (by decide)) (fun _ _ _ h => h) (Or.inl ⟨by rfl, fun w hSw => by go_simp⟩) HS0 ?_
      simp only [Act.put, List.setIfInBounds_toArray]
      try dsimp only [List.set_cons_zero, List.set_cons_succ]
      refine wpZ_take (i := 12) (v := .int .i64 (U : Int)) 60 rfl rfl (by kernel_rfl) (by kernel_rfl) (by kernel_rfl) (Or.inr (by decide)) (fun _ _ _ h => h) (Or.inl ⟨by rfl, fun w hSw => by go_simp⟩) HS0 ?_
      simp only [Act.put, List.setIfInBounds_toArray]
      try dsimp only [List.set_cons_zero, List.set_cons_succ]
      refine wpZ_take (i := 13) (v := .slice (some ⟨G, 0, none⟩) U n) 61 rfl rfl (by kernel_rfl) (by kernel_rfl) (by kernel_rfl) (Or.inr (by decide)) (fun _ _ _ h => h) (Or.inl ⟨by rfl, fun w hSw => by go_simp⟩) HS0 ?_
      simp only [Act.put, List.setIfInBounds_toArray]
      try dsimp only [List.set_cons_zero, List.set_cons_succ]
      refine wpZ_one (i := 2) (by kernel_rfl) rfl (fun K hK => ?_)
      go_simp
      refine (HE.out wD (hGw.out.below lowD)).mono ?_
      rintro e wE1 ⟨rfl, hbx1⟩
      have lowwE1 := bStep lowD hbx1
      have SwE1 : Rd4 wE1 N5 0 x ∧ Rd4 wE1 G 0 l ∧ Rd4 wE1 G (U * 4) u := ⟨K0.below lowwE1 kl0, K1.below lowwE1 kl1, K2.below lowwE1 kl1⟩
      go_wp2_with fail
      refine hK.out _ _ (fun _ => SwE1) ?_
      clear hK K hbx1
      refine wpZ_one (i := 14) (by kernel_rfl) rfl (fun K hK => ?_)
      go_simp
      refine (HS.out G n wE1 (hGw.out.below lowwE1) (Or.inr ⟨G, 0, n, rfl, by omega, by unfold maxLen; omega, (HB.out.belowAll lowwE1).lt, fun i hi j hj => by rw [Nat.zero_add]; exact (HB.out.belowAll lowwE1).cell i (by omega) j hj⟩)).mono ?_
      rintro e wE2 ⟨rfl, hbx2⟩
      have lowwE2 := bStep lowwE1 hbx2
      have SwE2 : Rd4 wE2 N5 0 x ∧ Rd4 wE2 G 0 l ∧ Rd4 wE2 G (U * 4) u := ⟨K0.below lowwE2 kl0, K1.below lowwE2 kl1, K2.below lowwE2 kl1⟩
      go_wp2_with fail
      refine hK.out _ _ (fun _ => SwE2) ?_
      clear hK K hbx2
      refine wpZ_take (i := 15) (v := .agg #[.int .u64 ((limb 0 X : Nat) : Int), .int .u64 ((limb 1 X : Nat) : Int), .int .u64 ((limb 2 X : Nat) : Int), .int .u64 ((limb 3 X : Nat) : Int), .int .u64 ((limb 0 l : Nat) : Int), .int .u64 ((limb 1 l : Nat) : Int), .int .u64 ((limb 2 l : Nat) : Int), .int .u64 ((limb 3 l : Nat) : Int), .int .u64 ((limb 0 u : Nat) : Int), .int .u64 ((limb 1 u : Nat) : Int), .int .u64 ((limb 2 u : Nat) : Int), .int .u64 ((limb 3 u : Nat) : Int), .int .u64 ((limb 0 V : Nat) : Int), .int .u64 ((limb 1 V : Nat) : Int), .int .u64 ((limb 2 V : Nat) : Int), .int .u64 ((limb 3 V : Nat) : Int)]) 63 rfl rfl (by kernel_rfl) (by kernel_rfl) (by kernel_rfl) (Or.inr (by decide)) (fun _ _ _ h => h) (Or.inl ⟨by rfl, fun w hSw => by go_simp⟩) SwE2 ?_
      simp only [Act.put, List.setIfInBounds_toArray]
      try dsimp only [List.set_cons_zero, List.set_cons_succ]
      have t6 := p6.belowAll lowwE2
      have ff := t6.fr
      obtain ⟨y0, y1, y2, y3, y4, y5, y6, y7, y8, y9, y10, y11, y12, y13, y14, y15⟩ := t6.cells16
      obtain ⟨w9, hw9, s6, hk9⟩ := t6.put16 (.int .u64 ((limb 0 X : Nat) : Int)) (.int .u64 ((limb 1 X : Nat) : Int)) (.int .u64 ((limb 2 X : Nat) : Int)) (.int .u64 ((limb 3 X : Nat) : Int)) (.int .u64 ((limb 0 l : Nat) : Int)) (.int .u64 ((limb 1 l : Nat) : Int)) (.int .u64 ((limb 2 l : Nat) : Int)) (.int .u64 ((limb 3 l : Nat) : Int)) (.int .u64 ((limb 0 u : Nat) : Int)) (.int .u64 ((limb 1 u : Nat) : Int)) (.int .u64 ((limb 2 u : Nat) : Int)) (.int .u64 ((limb 3 u : Nat) : Int)) (.int .u64 ((limb 0 V : Nat) : Int)) (.int .u64 ((limb 1 V : Nat) : Int)) (.int .u64 ((limb 2 V : Nat) : Int)) (.int .u64 ((limb 3 V : Nat) : Int))
      have hb9 := bStep hbr lowwE2
      have hbe := bKept hb9 l6 hk9
      refine wpZ_one (i := 16) (by kernel_rfl) rfl (fun K hK => ?_)
      go_simp
      have S9 : Rd4 w9 N5 0 x ∧ Rd4 w9 G 0 l ∧ Rd4 w9 G (U * 4) u := ⟨(K0.below lowwE2 kl0).kept (Nat.lt_of_lt_of_le kl0 (lowwE2).size) n5_6 hk9, (K1.below lowwE2 kl1).kept (Nat.lt_of_lt_of_le kl1 (lowwE2).size) n6G.symm hk9, (K2.below lowwE2 kl1).kept (Nat.lt_of_lt_of_le kl1 (lowwE2).size) n6G.symm hk9⟩
      refine hK.out _ _ (fun _ => S9) ?_
      clear hK K hk9 y0 y1 y2 y3 y4 y5 y6 y7 y8 y9 y10 y11 y12 y13 y14 y15 ff
      refine wpZ_take (i := 17) (v := .int .i64 0) 7 rfl rfl (by kernel_rfl) (by kernel_rfl) (by kernel_rfl) (Or.inr (by decide)) (fun _ _ _ h => h) (Or.inl ⟨by rfl, fun w hSw => by go_simp⟩) S9 ?_
      simp only [Act.put, List.setIfInBounds_toArray]
      try dsimp only [List.set_cons_zero, List.set_cons_succ]
      refine wpZ_done (by kernel_rfl) ?_ _
      obtain ⟨z0, z1, z2, z3, z4, z5, z6, z7, z8, z9, z10, z11, z12, z13, z14, z15⟩ := s6.cells16
      go_wp2
      refine bodyPost_ret (v := .tuple #[.agg #[.int .u64 ((limb 0 X : Nat) : Int), .int .u64 ((limb 1 X : Nat) : Int), .int .u64 ((limb 2 X : Nat) : Int), .int .u64 ((limb 3 X : Nat) : Int), .int .u64 ((limb 0 l : Nat) : Int), .int .u64 ((limb 1 l : Nat) : Int), .int .u64 ((limb 2 l : Nat) : Int), .int .u64 ((limb 3 l : Nat) : Int), .int .u64 ((limb 0 u : Nat) : Int), .int .u64 ((limb 1 u : Nat) : Int), .int .u64 ((limb 2 u : Nat) : Int), .int .u64 ((limb 3 u : Nat) : Int), .int .u64 ((limb 0 V : Nat) : Int), .int .u64 ((limb 1 V : Nat) : Int), .int .u64 ((limb 2 V : Nat) : Int), .int .u64 ((limb 3 V : Nat) : Int)], .int .i64 0]) (by simp [results, Tryz.results21, go_sem, z0, z1, z2, z3, z4, z5, z6, z7, z8, z9, z10, z11, z12, z13, z14, z15]) rfl ⟨by rw [HLU.out.1, HLU.out.2], hbe⟩
end Go.Proofs.YtfbfenljfdnggaaGreatDoor

