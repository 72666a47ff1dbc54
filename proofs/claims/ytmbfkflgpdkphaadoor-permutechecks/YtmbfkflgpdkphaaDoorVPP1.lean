/- permute.element, sum; Lagrange by a function; product.Check. -/
import Derived.Test.YtmbfkflgpdkphaaDoorVDY
import Derived.Test.YtmbfkflgpdkphaaDoorVD19
import Derived.Test.YtmbfkflgpdkphaaDoorVBE
namespace Go.Proofs.YtmbfkflgpdkphaaDoor
open Go.RowKit
/-- What lies in a block. -/
def Lay (w : World) (t : TypeId) (b : Nat) (cs : Array Value) : Prop := w.heap[b]? = some (.cells cs t)
theorem Lay.lt {w : World} {t : TypeId} {b : Nat} {cs : Array Value} (h : Lay w t b cs) : b < w.heap.size := (Array.getElem?_eq_some_iff.1 h).1
theorem Lay.below {w w' : World} {t : TypeId} {b m : Nat} {cs : Array Value} (h : Lay w t b cs) (hb : Below m w w') (hm : b < m) : Lay w' t b cs := by unfold Lay; rw [hb.block b hm]; exact h
theorem Lay.belowAll {w w' : World} {t : TypeId} {b : Nat} {cs : Array Value} (h : Lay w t b cs) (hb : Below w.heap.size w w') : Lay w' t b cs := h.below hb h.lt
theorem Lay.newAt (w : World) (t : TypeId) (cs : Array Value) {b : Nat} (h : b = w.heap.size) : Lay (w.alloc (.cells cs t)) t b cs := by rw [h]; exact new_blockE _ _
theorem Lay.alloc {w : World} {t : TypeId} {b : Nat} {cs : Array Value} (h : Lay w t b cs) (o : Obj) : Lay (w.alloc o) t b cs := h.belowAll (bAlloc (Below.refl _ _) _)
/-- An element's words in a row of values. -/
def El (cs : Array Value) (o x : Nat) : Prop := cs[o]? = some (.int .u64 ((limb 0 x : Nat) : Int)) ∧ cs[o + 1]? = some (.int .u64 ((limb 1 x : Nat) : Int)) ∧ cs[o + 2]? = some (.int .u64 ((limb 2 x : Nat) : Int)) ∧ cs[o + 3]? = some (.int .u64 ((limb 3 x : Nat) : Int))
theorem Lay.at {w : World} {t : TypeId} {b o : Nat} {cs : Array Value} {v : Value} (h : Lay w t b cs) (e : cs[o]? = some v) : w.cell? ⟨b, o, none⟩ = some v := by unfold Lay at h; simp [World.cell?, h, e]
theorem Lay.el {w : World} {t : TypeId} {b o x : Nat} {cs : Array Value} (h : Lay w t b cs) (e : El cs o x) : w.cell? ⟨b, o, none⟩ = some (.int .u64 ((limb 0 x : Nat) : Int)) ∧ w.cell? ⟨b, o + 1, none⟩ = some (.int .u64 ((limb 1 x : Nat) : Int)) ∧ w.cell? ⟨b, o + 2, none⟩ = some (.int .u64 ((limb 2 x : Nat) : Int)) ∧ w.cell? ⟨b, o + 3, none⟩ = some (.int .u64 ((limb 3 x : Nat) : Int)) :=
  ⟨h.at e.1, h.at e.2.1, h.at e.2.2.1, h.at e.2.2.2⟩
theorem Lay.kept {w w' : World} {t : TypeId} {b g : Nat} {cs : Array Value} (h : Lay w t b cs) (hne : b ≠ g) (hk : Kept g w w') : Lay w' t b cs := by unfold Lay; rw [hk.block b h.lt hne]; exact h
theorem lag_same {s k i x v v' : Nat} (h : LagP s k i x v) (h' : LagP s k i x v') : v = v' := by
  obtain ⟨h1, q, h2, h3⟩ := h
  obtain ⟨g1, p, g2, g3⟩ := h'
  have e1 := fz_inv1 h2
  have e2 := fz_inv1 g2
  have e3 : fz s q = fz s p := by
    have : fz s q * fz s (2 ^ k) * fz s p = fz s p * fz s (2 ^ k) * fz s q := by grind
    rw [e1, e2, Fin.one_mul, Fin.one_mul] at this
    exact this.symm
  refine fz_inj h1 g1 ?_
  rw [h3, g3, e3]
/-- Where a list lies. -/
theorem Es.open {w : World} {oa : Option Addr} {n cn : Nat} {f : Nat → Nat} (h : Es w (.slice oa n cn) n f) : (oa = none ∧ n = 0 ∧ cn = 0) ∨ ∃ b o, oa = some ⟨b, o, none⟩ ∧ n ≤ cn ∧ cn ≤ maxLen ∧ b < w.heap.size ∧ ∀ i, i < n → ∀ j, j < 4 → w.cell? ⟨b, o + i * 4 + j, none⟩ = some (.int .u64 ((limb j (f i) : Nat) : Int)) := by
  rcases h with ⟨h, h0⟩ | ⟨b, o, c, h, h1, h2, h3, h4⟩
  · cases h; exact Or.inl ⟨rfl, rfl, rfl⟩
  · cases h; exact Or.inr ⟨b, o, rfl, h1, h2, h3, h4⟩
/-- Lagrange's value. -/
def lagV (s k i x : Nat) : Nat := (fz s (invU (modN s) (2 ^ k)) * pw2 (fz s x * fp (fz s (rootP s k)) (2 ^ k - i)) k).val
theorem lagV_ok (s k i x : Nat) (hk : k ≤ 9) : LagP s k i x (lagV s k i x) := by
  have hlt : lagV s k i x < modN s := by
    exact Nat.lt_of_lt_of_eq (fz s (invU (modN s) (2 ^ k)) * pw2 (fz s x * fp (fz s (rootP s k)) (2 ^ k - i)) k).isLt (mq_eq s)
  have hne : 2 ^ k % modN s ≠ 0 := by
    rw [Nat.mod_eq_of_lt (two_lt s k hk)]
    exact Nat.ne_of_gt (Nat.pow_pos (by decide))
  exact ⟨hlt, invU (modN s) (2 ^ k), invU_ok (modN_prime s) hne, Fin.ext (by rw [fz_val, Nat.mod_eq_of_lt hlt]; rfl)⟩
theorem lagV_M (s k i x : Nat) (hk : k ≤ 9) : lagV s k i x < 115792089237316195423570985008687907853269984665640564039457584007913129639936 := lt_M s _ (lagV_ok s k i x hk).1
theorem dlagV (s k i x : Nat) (hs : s < 4) (hk : k ≤ 9) (hi : i < 2 ^ k) (hx : x < 115792089237316195423570985008687907853269984665640564039457584007913129639936) (w : World) (hg : GlobD w) :
    Calls Tryd.prog 20 #[.int .i64 (s : Int), .int .i64 (k : Int), .int .i64 (i : Int), .agg #[.int .u64 ((limb 0 (x) : Nat) : Int), .int .u64 ((limb 1 (x) : Nat) : Int), .int .u64 ((limb 2 (x) : Nat) : Int), .int .u64 ((limb 3 (x) : Nat) : Int)]] w fun e w' => e = .returned (.tuple #[.agg #[.int .u64 ((limb 0 (lagV s k i x) : Nat) : Int), .int .u64 ((limb 1 (lagV s k i x) : Nat) : Int), .int .u64 ((limb 2 (lagV s k i x) : Nat) : Int), .int .u64 ((limb 3 (lagV s k i x) : Nat) : Int)], .int .i64 0]) ∧ Below w.heap.size w w' := by
  refine (dlag_in s k i x hs hk hi hx w hg).mono ?_
  rintro e w' ⟨⟨v, rfl, hv⟩, hb⟩
  rw [lag_same hv (lagV_ok s k i x hk)]
  exact ⟨rfl, hb⟩
set_option maxHeartbeats 2000000 in
set_option maxRecDepth 20000 in
/-- permute.element. -/
theorem pmel_any (s v : Nat) (hs : s < 4) (hv : v < 115792089237316195423570985008687907853269984665640564039457584007913129639936) (w : World) (hg : Glob w) :
    Calls Tryd.prog 21 #[.int .i64 (s : Int), .agg #[.int .u64 ((limb 0 (v) : Nat) : Int), .int .u64 ((limb 1 (v) : Nat) : Int), .int .u64 ((limb 2 (v) : Nat) : Int), .int .u64 ((limb 3 (v) : Nat) : Int)]] w fun e w' => e = .returned (.agg #[.int .u64 ((limb 0 (addP s v 0) : Nat) : Int), .int .u64 ((limb 1 (addP s v 0) : Nat) : Int), .int .u64 ((limb 2 (addP s v 0) : Nat) : Int), .int .u64 ((limb 3 (addP s v 0) : Nat) : Int)]) ∧ Below w.heap.size w w' := by
  have HAD : Hid (∀ w, Glob w → _) := fun w hg => fAdd_zero s v hs hv w hg
  obtain ⟨Z, eZ⟩ : ∃ z, z = addP s v 0 := ⟨_, rfl⟩
  rw [← eZ] at HAD ⊢
  have HG : Hid (Glob w) := hg
  clear hv hg eZ
  go_enter Tryd.func21, Tryd.ntmps21
  go_upto_region 1 with fail
  have hs1 : (w.alloc (.cells #[.int .u64 ((limb 0 (v) : Nat) : Int), .int .u64 ((limb 1 (v) : Nat) : Int), .int .u64 ((limb 2 (v) : Nat) : Int), .int .u64 ((limb 3 (v) : Nat) : Int)] 24)).heap.size = w.heap.size + 1 := Array.size_push ..
  obtain ⟨N3, e0⟩ : ∃ z, z = w.heap.size := ⟨_, rfl⟩
  obtain ⟨N4, e1⟩ : ∃ z, z = N3 + 1 := ⟨_, rfl⟩
  obtain ⟨w1, hw1⟩ : ∃ z : World, z = (w.alloc (.cells #[.int .u64 ((limb 0 (v) : Nat) : Int), .int .u64 ((limb 1 (v) : Nat) : Int), .int .u64 ((limb 2 (v) : Nat) : Int), .int .u64 ((limb 3 (v) : Nat) : Int)] 24)).alloc (.cells #[.int .u64 0, .int .u64 0, .int .u64 0, .int .u64 0] 24) := ⟨_, rfl⟩
  have b3 : Blk w1 24 N3 (fun i => limb i v) := by rw [hw1]; exact (Blk.newAt _ _ _ (fun i => limb i v) e0).alloc _
  have b4 : Blk w1 24 N4 (fun _ => 0) := by rw [hw1]; exact Blk.newAt _ _ _ (fun _ => 0) (by rw [e1, e0, hs1])
  have hb1 : Below w.heap.size w w1 := by rw [hw1]; exact bAlloc (bAlloc (Below.refl _ _) _) _
  rw [← hw1]
  try rw [← e0]
  try rw [← e1]
  have l3 : w.heap.size ≤ N3 := by omega
  have l4 : w.heap.size ≤ N4 := by omega
  have n3_4 : N3 ≠ N4 := by omega
  clear hw1 e0 e1 hs1
  have HG1 : Hid (Glob w1) := HG.out.below hb1
  have q3 := b3.cell
  go_wp2_with fail
  refine (HAD.out w1 HG1.out).mono ?_
  rintro e w2 ⟨rfl, hbx⟩
  have c4' := b4.belowAll hbx
  have hb2 := bStep hb1 hbx
  clear q3 b3 b4 hb1 hbx HAD HG1
  have c4 := c4'.cell; have f4 := c4'.frozen
  obtain ⟨w5, hw5, s4, hk5⟩ := c4'.put4 Z
  have hbe := bKept hb2 l4 hk5
  go_wp2
  have r0 := s4.cell 0 (by decide); have r1 := s4.cell 1 (by decide); have r2 := s4.cell 2 (by decide); have r3 := s4.cell 3 (by decide)
  refine bodyPost_ret (v := .agg #[.int .u64 ((limb 0 (Z) : Nat) : Int), .int .u64 ((limb 1 (Z) : Nat) : Int), .int .u64 ((limb 2 (Z) : Nat) : Int), .int .u64 ((limb 3 (Z) : Nat) : Int)]) (by simp [results, Tryd.results21, go_sem, r0, r1, r2, r3]) rfl ⟨rfl, ?_⟩
  exact hbe
theorem pck_in (s : Nat) (k : Int) (hs : s < 4) (w : World) (hg : Glob w) :
    Calls Tryd.prog 18 #[.int .i64 (s : Int), .int .i64 k] w fun e w' => e = .returned (.int .i64 (if k < 3 ∨ 5 < k then 60 else 0)) ∧ Below w.heap.size w w' := by
  have HM : Hid (∀ w, Glob w → _) := fun w hg => fModulus_any s hs w hg
  have HG : Hid (Glob w) := hg
  obtain ⟨M, eM⟩ : ∃ z, z = modN s := ⟨_, rfl⟩
  rw [← eM] at HM
  obtain ⟨si, esi⟩ : ∃ z : Int, z = (s : Int) := ⟨_, rfl⟩
  rw [← esi] at HM ⊢
  clear eM esi hs hg
  by_cases h3 : k < 3
  · rw [if_pos (Or.inl h3)]
    go_enter Tryd.func18, Tryd.ntmps18
    go_wp2_with fail
    refine (HM.out w HG.out).mono ?_
    rintro e w1 ⟨rfl, hb⟩
    clear HM HG
    go_wp2
    go_ret
    exact ⟨rfl, bAlloc hb _⟩
  by_cases h5 : (5 : Int) < k
  · rw [if_pos (Or.inr h5)]
    go_enter Tryd.func18, Tryd.ntmps18
    go_wp2_with fail
    refine (HM.out w HG.out).mono ?_
    rintro e w1 ⟨rfl, hb⟩
    clear HM HG
    go_wp2
    go_ret
    exact ⟨rfl, bAlloc hb _⟩
  · rw [if_neg (by omega)]
    go_enter Tryd.func18, Tryd.ntmps18
    go_wp2_with fail
    refine (HM.out w HG.out).mono ?_
    rintro e w1 ⟨rfl, hb⟩
    clear HM HG
    go_wp2
    go_ret
    exact ⟨rfl, bAlloc hb _⟩
/-- The sum of the first. -/
def sm (s : Nat) (f : Nat → Nat) : Nat → Nat
  | 0 => 0
  | n + 1 => addP s (sm s f n) (f n)
theorem sm_M (s : Nat) (f : Nat → Nat) (n : Nat) : sm s f n < 115792089237316195423570985008687907853269984665640564039457584007913129639936 := by
  cases n with
  | zero => show 0 < 115792089237316195423570985008687907853269984665640564039457584007913129639936; decide
  | succ n => exact lt_M s _ (addP_lt _ _ _)
set_option maxHeartbeats 4000000 in
set_option maxRecDepth 20000 in
/-- permute.sum. -/
theorem psum_any (s n cn : Nat) (oa : Option Addr) (f : Nat → Nat) (hs : s < 4) (hn : n ≤ 1000000) (hf : ∀ i, i < n → f i < 115792089237316195423570985008687907853269984665640564039457584007913129639936) (w : World) (hg : Glob w) (hv : Es w (.slice oa n cn) n f) :
    Calls Tryd.prog 22 #[.int .i64 (s : Int), .slice oa n cn] w fun e w' => e = .returned (.agg #[.int .u64 ((limb 0 (sm s f n) : Nat) : Int), .int .u64 ((limb 1 (sm s f n) : Nat) : Int), .int .u64 ((limb 2 (sm s f n) : Nat) : Int), .int .u64 ((limb 3 (sm s f n) : Nat) : Int)]) ∧ Below w.heap.size w w' := by
  have HADD : Hid (∀ a b, a < 115792089237316195423570985008687907853269984665640564039457584007913129639936 → b < 115792089237316195423570985008687907853269984665640564039457584007913129639936 → ∀ w, Glob w → Calls Tryd.prog 47 #[.int .i64 (s : Int), .agg #[.int .u64 ((limb 0 (a) : Nat) : Int), .int .u64 ((limb 1 (a) : Nat) : Int), .int .u64 ((limb 2 (a) : Nat) : Int), .int .u64 ((limb 3 (a) : Nat) : Int)], .agg #[.int .u64 ((limb 0 (b) : Nat) : Int), .int .u64 ((limb 1 (b) : Nat) : Int), .int .u64 ((limb 2 (b) : Nat) : Int), .int .u64 ((limb 3 (b) : Nat) : Int)]] w fun e w' => e = .returned (.agg #[.int .u64 ((limb 0 (addP s a b) : Nat) : Int), .int .u64 ((limb 1 (addP s a b) : Nat) : Int), .int .u64 ((limb 2 (addP s a b) : Nat) : Int), .int .u64 ((limb 3 (addP s a b) : Nat) : Int)]) ∧ Below w.heap.size w w') := fun a b ha hb w hg => fAdd_any s a b hs ha hb w hg
  have HG : Hid (Glob w) := hg
  have HV : Hid (Es w (.slice oa n cn) n f) := hv
  have HFM : Hid (∀ i, i < n → f i < 115792089237316195423570985008687907853269984665640564039457584007913129639936) := hf
  obtain ⟨si, esi⟩ : ∃ z : Int, z = (s : Int) := ⟨_, rfl⟩
  rw [← esi] at HADD ⊢
  clear hg hv hf esi hs
  go_enter Tryd.func22, Tryd.ntmps22
  go_upto_region 2 with fail
  have hs1 : (w.alloc (.cells #[.int .u64 0, .int .u64 0, .int .u64 0, .int .u64 0] 24)).heap.size = w.heap.size + 1 := Array.size_push ..
  obtain ⟨N4, e0⟩ : ∃ z, z = w.heap.size := ⟨_, rfl⟩
  obtain ⟨N5, e1⟩ : ∃ z, z = N4 + 1 := ⟨_, rfl⟩
  obtain ⟨w2, hw1⟩ : ∃ z : World, z = (w.alloc (.cells #[.int .u64 0, .int .u64 0, .int .u64 0, .int .u64 0] 24)).alloc (.cells #[.int .u64 0, .int .u64 0, .int .u64 0, .int .u64 0] 24) := ⟨_, rfl⟩
  have b4 : Blk w2 24 N4 (fun _ => 0) := by rw [hw1]; exact (Blk.newAt _ _ _ (fun _ => 0) e0).alloc _
  have b5 : Blk w2 24 N5 (fun _ => 0) := by rw [hw1]; exact Blk.newAt _ _ _ (fun _ => 0) (by rw [e1, e0, hs1])
  have hb2 : Below w.heap.size w w2 := by rw [hw1]; exact bAlloc (bAlloc (Below.refl _ _) _) _
  rw [← hw1]
  try rw [← e0]
  try rw [← e1]
  have l4 : w.heap.size ≤ N4 := by omega
  have l5 : w.heap.size ≤ N5 := by omega
  have n4_5 : N4 ≠ N5 := by omega
  clear hw1 e0 e1 hs1
  have HG2 : Hid (Glob w2) := HG.out.below hb2
  have b50 : Blk w2 24 N5 (fun i => limb i (sm s f 0)) := b5.congr (fun i _ => limb_zero i)
  clear b5
  go_wp2
  go_loopw [10] (fun iv wr => ∃ j : Nat, iv = .int .i64 (j : Int) ∧ j ≤ n ∧ Below w.heap.size w wr ∧ Blk wr 24 N4 (fun _ => 0) ∧ Blk wr 24 N5 (fun i => limb i (sm s f j))) (fun iv _ => n - (intOf iv).toNat)
  case atStart => exact ⟨0, rfl, Nat.zero_le _, hb2, b4, b50⟩
  case round =>
    obtain ⟨j, rfl, hj, hbr, p4, p5⟩ := hrel
    clear b4 b50 hb2 HG2
    by_cases hlt : j < n
    · have hji : (j : Int) < (n : Int) := by omega
      rcases HV.out.open with ⟨_, h0, _⟩ | ⟨ab, ao, rfl, _, _, lab, hc⟩
      · omega
      have hxm : f j < 115792089237316195423570985008687907853269984665640564039457584007913129639936 := HFM.out j hlt
      have c0 := (hbr.cell (p := ⟨ab, ao + j * 4 + 0, none⟩) lab).trans (hc j (by omega) 0 (by decide)); have c1 := (hbr.cell (p := ⟨ab, ao + j * 4 + 1, none⟩) lab).trans (hc j (by omega) 1 (by decide)); have c2 := (hbr.cell (p := ⟨ab, ao + j * 4 + 2, none⟩) lab).trans (hc j (by omega) 2 (by decide)); have c3 := (hbr.cell (p := ⟨ab, ao + j * 4 + 3, none⟩) lab).trans (hc j (by omega) 3 (by decide))
      rw [Nat.add_zero] at c0
      clear hc
      have HRC : Hid (sm s f (j + 1) = addP s (sm s f j) (f j)) := rfl
      have hvm : sm s f j < 115792089237316195423570985008687907853269984665640564039457584007913129639936 := sm_M _ _ _
      obtain ⟨x, ex⟩ : ∃ x, x = f j := ⟨_, rfl⟩
      rw [← ex] at c0 c1 c2 c3 hxm HRC
      obtain ⟨v, ev⟩ : ∃ v, v = sm s f j := ⟨_, rfl⟩
      rw [← ev] at p5 hvm HRC
      have HA : Hid (∀ w, Glob w → _) := HADD.out v x hvm hxm
      obtain ⟨y, ey⟩ : ∃ y, y = addP s v x := ⟨_, rfl⟩
      rw [← ey] at HA HRC
      clear ex ev ey hvm hxm
      go_upto_region 5 with fail
      obtain ⟨w3, hw3⟩ : ∃ z : World, z = wr.alloc (.cells #[.int .u64 ((limb 0 (x) : Nat) : Int), .int .u64 ((limb 1 (x) : Nat) : Int), .int .u64 ((limb 2 (x) : Nat) : Int), .int .u64 ((limb 3 (x) : Nat) : Int)] 24) := ⟨_, rfl⟩
      obtain ⟨N7, e7⟩ : ∃ z, z = wr.heap.size := ⟨_, rfl⟩
      have b7 : Blk w3 24 N7 (fun i => limb i x) := by rw [hw3]; exact Blk.newAt _ _ _ (fun i => limb i x) e7
      have hbn : Below wr.heap.size wr w3 := by rw [hw3]; exact bAlloc (Below.refl _ _) _
      have q4 := p4.belowAll hbn; have q5 := p5.belowAll hbn
      have hb3 := bStep hbr hbn
      rw [← hw3]
      try rw [← e7]
      clear hw3 e7 hbn p4 p5 hbr c0 c1 c2 c3
      have k5 := q5.cell; have k7 := b7.cell
      go_wp2_with fail
      refine (HA.out w3 (HG.out.below hb3)).mono ?_
      rintro e w4 ⟨rfl, hb⟩
      have r4 := q4.belowAll hb; have r5 := q5.belowAll hb
      have hb4 := bStep hb3 hb
      clear hb q4 q5 hb3 k5 k7 b7
      have k5 := r5.cell; have f5 := r5.frozen
      obtain ⟨w5, hw5, s5, hk5⟩ := r5.put4 y
      have s4 := r4.kept n4_5 hk5
      have hb5 := bKept hb4 l5 hk5
      have s5' : Blk w5 24 N5 (fun i => limb i (sm s f (j + 1))) := by rw [HRC.out]; exact s5
      clear hk5 r4 hb4 HRC
      go_wp2
      go_roundw
      case measure => simp [intOf]; omega
      case rel => exact ⟨j + 1, by go_num, by omega, hb5, s4, s5'⟩
    · have hji : ¬ (j : Int) < (n : Int) := by omega
      obtain rfl : j = n := by omega
      obtain ⟨v, ev⟩ : ∃ v, v = sm s f j := ⟨_, rfl⟩
      rw [← ev] at p5
      have HEV : Hid (v = sm s f j) := ev
      clear ev
      have k5 := p5.cell
      have k4 := p4.cell; have f4 := p4.frozen
      obtain ⟨w5, hw5, s4, hk⟩ := p4.put4 v
      have hbe := bKept hbr l4 hk
      clear hk
      have r4 := s4.cell
      go_wp2
      have r0 := s4.cell 0 (by decide); have r1 := s4.cell 1 (by decide); have r2 := s4.cell 2 (by decide); have r3 := s4.cell 3 (by decide)
      refine bodyPost_ret (v := .agg #[.int .u64 ((limb 0 (v) : Nat) : Int), .int .u64 ((limb 1 (v) : Nat) : Int), .int .u64 ((limb 2 (v) : Nat) : Int), .int .u64 ((limb 3 (v) : Nat) : Int)]) (by simp [results, Tryd.results22, go_sem, r0, r1, r2, r3]) rfl ⟨by rw [HEV.out], hbe⟩
end Go.Proofs.YtmbfkflgpdkphaaDoor
