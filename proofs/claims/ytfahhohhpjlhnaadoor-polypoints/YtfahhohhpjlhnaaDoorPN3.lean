/- poly: Through. -/
import Derived.Test.YtfahhohhpjlhnaaDoorPN2
import Derived.Test.YtfahhohhpjlhnaaDoorPB6
import Derived.Test.YtfahhohhpjlhnaaDoorL3P
namespace Go.Proofs.YtfahhohhpjlhnaaDoor
open Go.RowKit

/-- A block of slices. -/
def SlB (w : World) (H n : Nat) (c : Nat → Value) : Prop := ∃ cs, w.heap[H]? = some (.cells cs 22) ∧ cs.size = n ∧ ∀ i, i < n → cs[i]? = some (c i)
section
variable {w w' : World} {H n : Nat} {c c' : Nat → Value}
theorem SlB.lt (h : SlB w H n c) : H < w.heap.size := by
  obtain ⟨cs, hc, _⟩ := h
  exact (Array.getElem?_eq_some_iff.1 hc).1
theorem SlB.cell (h : SlB w H n c) : ∀ i, i < n → w.cell? ⟨H, i, none⟩ = some (c i) := by
  obtain ⟨cs, hc, hs, hf⟩ := h
  intro i hi
  simp [World.cell?, hc, hf i hi]
theorem SlB.frozen (h : SlB w H n c) : ∀ o, w.frozen? ⟨H, o, none⟩ = false := by
  obtain ⟨cs, hc, _⟩ := h
  intro o
  simp [World.frozen?, hc]
theorem SlB.same (h : SlB w H n c) (e : w'.heap[H]? = w.heap[H]?) : SlB w' H n c := by
  obtain ⟨cs, hc, hs⟩ := h
  exact ⟨cs, by rw [e]; exact hc, hs⟩
theorem SlB.belowAll (h : SlB w H n c) (hb : Below w.heap.size w w') : SlB w' H n c := h.same (hb.block H h.lt)
theorem SlB.drew (h : SlB w H n c) : SlB w.drew H n c := h
theorem SlB.kept {g : Nat} (h : SlB w H n c) (hne : H ≠ g) (hk : Kept g w w') : SlB w' H n c := h.same (hk.block H h.lt hne)
theorem SlB.congr (h : SlB w H n c) (hg : ∀ i, i < n → c' i = c i) : SlB w H n c' := by
  obtain ⟨cs, hc, hs, hf⟩ := h
  exact ⟨cs, hc, hs, fun i hi => by rw [hf i hi, hg i hi]⟩
theorem SlB.put (h : SlB w H n c) {k : Nat} (hk : k < n) (v : Value) : ∃ w', w.setCell ⟨H, k, none⟩ v = w' ∧ SlB w' H n (fun i => if i = k then v else c i) ∧ Kept H w w' := by
  refine ⟨_, rfl, ?_, (Kept.refl H w).setCell k v⟩
  obtain ⟨cs, hc, hs, hf⟩ := h
  refine ⟨cs.setIfInBounds k v, ?_, by simp [hs], ?_⟩
  · simp [World.setCell, Array.getElem?_modify, hc]
  · intro i hi
    by_cases e : i = k
    · subst e; simp [hs, hi]
    · simp [e, Ne.symm (fun h => e h), hf i hi]
end
theorem sliceInfo : ∃ i : TypeInfo, Tryd.prog.info? 22 = some i ∧ i.zero = some (.slice none 0 0) ∧ i.size = 1 ∧ i.bytes = 24 := by
  match h : Tryd.prog.info? 22 with
  | some i => exact ⟨i, rfl, by have e : (Tryd.prog.info? 22).bind (·.zero) = some (.slice none 0 0) := by kernel_rfl
                                rw [h] at e; exact e, by have e : (Tryd.prog.info? 22).map (·.size) = some 1 := by kernel_rfl
                                                         rw [h] at e; exact Option.some.inj e, by have e : (Tryd.prog.info? 22).map (·.bytes) = some 24 := by kernel_rfl
                                                                                                  rw [h] at e; exact Option.some.inj e⟩
  | none => have e : (Tryd.prog.info? 22).map (·.size) = some 1 := by kernel_rfl
            rw [h] at e; cases e
theorem made_nil (n t : Nat) (ht : t < n) : (madeCells #[.slice none 0 0] n).toList[t]? = some (.slice none 0 0) := by
  rw [Array.getElem?_toList]
  unfold madeCells
  rw [Array.getElem?_map, Array.getElem?_range, if_pos ht]
  show some _ = _
  dsimp only
  rw [show (#[Value.slice none 0 0] : Array Value).size = 1 from rfl, show t % 1 = 0 from Nat.mod_one t]
  rfl
theorem own_SlB {w : World} {base g n : Nat} {xs : List Value} {c : Nat → Value} (h : w.ownsRow base 22 1 (.slice (some ⟨g, 0, none⟩) n n) n xs) (hf : ∀ i, i < n → xs[i]? = some (c i)) : SlB w g n c ∧ base ≤ g := by
  obtain ⟨hl, h⟩ := h
  rcases h with ⟨h0, h1⟩ | ⟨g', cc, cur, h1, hb, hg, hc, _, hs, ht⟩
  · cases h0
  · cases h1
    refine ⟨⟨cur, hg, by rw [hs, Nat.mul_one], ?_⟩, hb⟩
    intro i hi
    rw [← hf i hi, ← ht, List.getElem?_take_of_lt (by omega), Array.getElem?_toList]
/-- The product of the others. -/
def othN (s : Nat) (xs : Nat → Nat) (n i t : Nat) : Nat := hor (addP s) (mulP s) (addP s (xs i) 0) (fun j => zrs s xs n (j + 1)) n (n - t)
/-- Its value at its own point. -/
def valN (s : Nat) (xs : Nat → Nat) (n i : Nat) : Nat := hor (addP s) (mulP s) (addP s (xs i) 0) (othN s xs n i) n n
/-- The sum of the first k of them, each so often that its value is y. -/
def accN (s : Nat) (xs ys : Nat → Nat) (n : Nat) : Nat → Nat → Nat
  | 0, _ => 0
  | k + 1, t => addP s (accN s xs ys n k t) (mulP s (mulP s (ys k) (invU (modN s) (valN s xs n k))) (othN s xs n k t))
theorem hor_M {s x : Nat} {f : Nat → Nat} {n : Nat} : ∀ d, hor (addP s) (mulP s) x f n d < 115792089237316195423570985008687907853269984665640564039457584007913129639936
  | 0 => M_pos
  | _ + 1 => addP_M _ _ _
theorem othN_M (s : Nat) (xs : Nat → Nat) (n i t : Nat) : othN s xs n i t < 115792089237316195423570985008687907853269984665640564039457584007913129639936 := hor_M _
theorem valN_M (s : Nat) (xs : Nat → Nat) (n i : Nat) : valN s xs n i < 115792089237316195423570985008687907853269984665640564039457584007913129639936 := hor_M _
theorem accN_M (s : Nat) (xs ys : Nat → Nat) (n : Nat) : ∀ k t, accN s xs ys n k t < 115792089237316195423570985008687907853269984665640564039457584007913129639936
  | 0, _ => M_pos
  | _ + 1, _ => addP_M _ _ _
/-- What Through answers, where the lists are as long. -/
def ThrE (s n : Nat) (xs ys : Nat → Nat) (w : World) (e : Ending) (w' : World) : Prop :=
  (pre (modN s) (valN s xs n) n = 0 ∧ e = .returned (.tuple #[.slice none 0 0, .int .i64 10])) ∨
  (pre (modN s) (valN s xs n) n ≠ 0 ∧ ∃ G, e = .returned (.tuple #[.slice (some ⟨G, 0, none⟩) (szE (fun a => addP s a 0) (accN s xs ys n n) n) n, .int .i64 0]) ∧ w.heap.size ≤ G ∧ BlkE w' G n (accN s xs ys n n))
set_option maxHeartbeats 16000000 in
set_option maxRecDepth 100000 in
/-- poly.Through. -/
theorem thr_any (s n cn cm : Nat) (oa ob : Option Addr) (xs ys : Nat → Nat) (hs : s < 4) (hn : n ≤ 64) (hx : ∀ i, i < n → xs i < 115792089237316195423570985008687907853269984665640564039457584007913129639936) (hy : ∀ i, i < n → ys i < 115792089237316195423570985008687907853269984665640564039457584007913129639936) (w : World) (hg : Glob w) (hv : Es w (.slice oa n cn) n xs) (hu : Es w (.slice ob n cm) n ys) :
    Calls Tryd.prog 10 #[.int .i64 (s : Int), .slice oa n cn, .slice ob n cm] w fun e w' => ThrE s n xs ys w e w' ∧ Below w.heap.size w w' := by
  obtain ⟨i0, hi, hz0, hz1, hz2⟩ := elemInfo
  have HIi0 := (show Hid _ from hi); have HZi0 := (show Hid _ from And.intro hz0 (And.intro hz1 hz2)); clear hi hz0 hz1 hz2
  obtain ⟨i1, hi, hz0, hz1, hz2⟩ := sliceInfo
  have HIi1 := (show Hid _ from hi); have HZi1 := (show Hid _ from And.intro hz0 (And.intro hz1 hz2)); clear hi hz0 hz1 hz2
  have HG : Hid (Glob w) := hg
  have HV : Hid (Es w (.slice oa n cn) n xs) := hv
  have HU : Hid (Es w (.slice ob n cm) n ys) := hu
  have HXM : Hid (∀ i, i < n → xs i < 115792089237316195423570985008687907853269984665640564039457584007913129639936) := hx
  have HYM : Hid (∀ i, i < n → ys i < 115792089237316195423570985008687907853269984665640564039457584007913129639936) := hy
  have HS : Hid (s < 4) := hs
  have h64 : ¬ (64 : Int) < (n : Int) := by omega
  have HN : Hid (n ≤ 64) := hn
  have hwr : IntKind.i64.wrap (n : Int) = (n : Int) := wrap_i64_nat n (by omega)
  have hn0 : (0 : Int) ≤ (n : Int) := by omega
  obtain ⟨L, eL⟩ : ∃ L, L = n + 1 := ⟨_, rfl⟩
  have HL : Hid (L = n + 1) := eL
  clear hg hv hu hx hy hs eL
  have HMO : Hid (∀ w, Glob w → _) := fun w hg => fModulus_any s HS.out w hg
  have HZO : Hid (∀ w, Glob w → Es w (.slice oa n cn) n xs → Calls Tryd.prog 16 #[.int .i64 (s : Int), .slice oa n cn] w fun e w' => (∃ G, e = .returned (.slice (some ⟨G, 0, none⟩) L L) ∧ w.heap.size ≤ G ∧ BlkE w' G L (zrs s xs n)) ∧ Below w.heap.size w w') := fun w hg hv => by rw [HL.out]; exact zeros_any s n cn oa xs HS.out (by omega) HXM.out w hg hv
  go_enter Tryd.func10, Tryd.ntmps10
  go_wp2_with fail
  refine (HMO.out w HG.out).mono ?_
  rintro e w1 ⟨rfl, hb1⟩
  obtain ⟨w2, hw2⟩ : ∃ z : World, z = w1.alloc (.cells #[.int .u64 ((limb 0 (modN s) : Nat) : Int), .int .u64 ((limb 1 (modN s) : Nat) : Int), .int .u64 ((limb 2 (modN s) : Nat) : Int), .int .u64 ((limb 3 (modN s) : Nat) : Int)] 33) := ⟨_, rfl⟩
  have hb2 : Below w.heap.size w w2 := by rw [hw2]; exact bAlloc hb1 _
  go_wp2_with fail
  rw [← hw2]
  clear hw2 hb1 HMO
  refine (HZO.out w2 (HG.out.below hb2) (HV.out.below hb2)).mono ?_
  rintro e w3 ⟨⟨A, rfl, lA2, bA3⟩, hb3⟩
  have hb := bStep hb2 hb3
  have lA : w.heap.size ≤ A := Nat.le_trans hb2.size lA2
  clear hb2 hb3 lA2 HZO
  go_wp2_with (first
    | (at_make; refine wpList_make_full _ rfl _ _ 41 rfl w3.heap.size 22 i1 (.slice none 0 0) 1 Tryd.underlying41 HIi1.out HZi1.out.1 HZi1.out.2.1 .i64 .i64 n n n rfl rfl rfl rfl ?c1 ?c2 (Nat.le_refl _) ?_)
    | go_in)
  case c1 => rw [HZi1.out.2.2]; omega
  case c2 => unfold maxLen; omega
  intro w4 hown hgrow
  obtain ⟨H, eH⟩ : ∃ G, G = w3.heap.size := ⟨_, rfl⟩
  rw [← eH] at hown ⊢
  have bH4 : SlB w4 H n (fun _ => .slice none 0 0) := (own_SlB (c := fun _ => .slice none 0 0) hown (fun i hi => made_nil n i hi)).1
  have hbe : Below w3.heap.size w3 w4 := (Below.refl _ w3).grown hgrow (Nat.le_refl _) (fun j hj => by cases hj)
  have hb4 := bStep hb hbe
  have bA4 := bA3.belowAll hbe
  have kA := bA3.lt
  have lH : w.heap.size ≤ H := by have := hb.size; omega
  have nAH : A ≠ H := by omega
  clear hown hgrow hbe hb bA3 eH kA
  go_wp2_with (first
    | (at_make; refine wpList_make_full _ rfl _ _ 22 rfl w4.heap.size 33 i0 (.agg #[.int .u64 0, .int .u64 0, .int .u64 0, .int .u64 0]) 4 Tryd.underlying22 HIi0.out HZi0.out.1 HZi0.out.2.1 .i64 .i64 n n n rfl rfl rfl rfl ?c1 ?c2 (Nat.le_refl _) ?_)
    | go_in)
  case c1 => rw [HZi0.out.2.2]; omega
  case c2 => unfold maxLen; omega
  intro w5 hown hgrow
  obtain ⟨V, eV⟩ : ∃ G, G = w4.heap.size := ⟨_, rfl⟩
  rw [← eV] at hown ⊢
  have bV5 : BlkE w5 V n (fun _ => 0) := (own_blkE (f := fun _ => 0) hown (fun i hi j hj => by rw [made_zero n (i * 4 + j) (by omega), limb_zero]; rfl)).1
  have hbe : Below w4.heap.size w4 w5 := (Below.refl _ w4).grown hgrow (Nat.le_refl _) (fun j hj => by cases hj)
  have hb5 := bStep hb4 hbe
  have bA5 := bA4.belowAll hbe; have bH5 := bH4.belowAll hbe
  have kA := bA4.lt; have kH := bH4.lt
  have lV : w.heap.size ≤ V := by have := hb4.size; omega
  have nAV : A ≠ V := by omega
  have nHV : H ≠ V := by omega
  clear hown hgrow hbe hb4 bA4 bH4 eV kA kH
  go_wp2
  go_loopw [47] (fun iv wr => ∃ (k : Nat) (g : Nat → Nat), iv = .int .i64 (k : Int) ∧ k ≤ n ∧ Below w.heap.size w wr ∧ BlkE wr A L (zrs s xs n) ∧ SlB wr H n (fun i => if i < k then .slice (some ⟨g i, 0, none⟩) n n else .slice none 0 0) ∧ BlkE wr V n (fun i => if i < k then valN s xs n i else 0) ∧ Hid (∀ j, j < k → w.heap.size ≤ g j ∧ g j ≠ V ∧ g j ≠ H ∧ BlkE wr (g j) n (othN s xs n j))) (fun iv _ => n - (intOf iv).toNat)
  case atStart => exact ⟨0, fun _ => 0, rfl, Nat.zero_le _, hb5, bA5, bH5.congr (fun i _ => if_neg (by omega)), bV5.congr (fun i _ => if_neg (by omega)), fun j hj => absurd hj (by omega)⟩
  case round =>
    obtain ⟨k, g, rfl, hkn, hbr, bA, bH, bV, HO⟩ := hrel
    clear hb5 bA5 bH5 bV5
    by_cases hk : k < n
    · have hki : (k : Int) < (n : Int) := by omega
      have hk0 : (0 : Int) ≤ (k : Int) := by omega
      rcases HV.out with ⟨_, h0⟩ | ⟨ab, ao, c', hv, _, _, lab, hcell⟩
      · omega
      cases hv
      have HXK : Hid (xs k < 115792089237316195423570985008687907853269984665640564039457584007913129639936) := HXM.out k hk
      have ca : ∀ j, j < 4 → wr.cell? ⟨ab, ao + k * 4 + j, none⟩ = some (.int .u64 ((limb j (xs k) : Nat) : Int)) := fun j hj => (hbr.cell (p := ⟨ab, ao + k * 4 + j, none⟩) lab).trans (hcell k hk j hj)
      obtain ⟨x, ex⟩ : ∃ x, x = xs k := ⟨_, rfl⟩
      rw [← ex] at ca HXK
      have HEX : Hid (x = xs k) := ex
      clear ex hcell
      have a0 := ca 0 (by decide); have a1 := ca 1 (by decide); have a2 := ca 2 (by decide); have a3 := ca 3 (by decide)
      rw [Nat.add_zero] at a0
      clear ca
      go_upto_region 14 with fail
      obtain ⟨N14, e14⟩ : ∃ z, z = wr.heap.size := ⟨_, rfl⟩
      obtain ⟨w4, hw4⟩ : ∃ z : World, z = wr.alloc (.cells #[.int .u64 ((limb 0 (x) : Nat) : Int), .int .u64 ((limb 1 (x) : Nat) : Int), .int .u64 ((limb 2 (x) : Nat) : Int), .int .u64 ((limb 3 (x) : Nat) : Int)] 33) := ⟨_, rfl⟩
      have bx4 : Blk w4 33 N14 (fun i => limb i x) := by rw [hw4, e14]; exact Blk.newAt _ _ _ (fun i => limb i x) rfl
      have hbe : Below wr.heap.size wr w4 := by rw [hw4]; exact bAlloc (Below.refl _ _) _
      have hbr4 := bStep hbr hbe
      have bA4 := bA.belowAll hbe; have bH4 := bH.belowAll hbe; have bV4 := bV.belowAll hbe
      have kH := bH.lt; have kV := bV.lt
      have n14H : N14 ≠ H := by omega
      have HO4 : Hid (∀ j, j < k → w.heap.size ≤ g j ∧ g j ≠ V ∧ g j ≠ H ∧ BlkE w4 (g j) n (othN s xs n j)) := fun j hj => by
        have h := HO.out j hj
        exact ⟨h.1, h.2.1, h.2.2.1, h.2.2.2.belowAll hbe⟩
      rw [← hw4, ← e14]
      clear hw4 e14 a0 a1 a2 a3 hbr bA bH bV HO hbe kH kV
      have cx := bx4.cell
      have HES : Hid (Es w4 (.slice (some ⟨A, 0, none⟩) L L) L (zrs s xs n)) := bA4.Es (by have := HL.out; unfold maxLen; omega)
      go_wp2_with fail
      refine (wout_any (fld_in s HS.out) A L n L x (zrs s xs n) HL.out (by omega) (by omega) HXK.out (fun i _ => zrs_M _ _ _ _) w4 (HG.out.below hbr4) HES.out).mono ?_
      rintro e w6 ⟨⟨G, rfl, lG4, bG6⟩, hb6⟩
      rw [HEX.out] at bG6
      have lG : w.heap.size ≤ G := Nat.le_trans hbr4.size lG4
      have nGV : G ≠ V := by have := bV4.lt; omega
      have nGH : G ≠ H := by have := bH4.lt; omega
      have hbr6 := bStep hbr4 hb6
      have bx6 := bx4.belowAll hb6; have bA6 := bA4.belowAll hb6; have bH6 := bH4.belowAll hb6; have bV6 := bV4.belowAll hb6
      have HO6 : Hid (∀ j, j < k → w.heap.size ≤ g j ∧ g j ≠ V ∧ g j ≠ H ∧ BlkE w6 (g j) n (othN s xs n j)) := fun j hj => by
        have h := HO4.out j hj
        exact ⟨h.1, h.2.1, h.2.2.1, h.2.2.2.belowAll hb6⟩
      clear bx4 bA4 bH4 bV4 HO4 hbr4 hb6 HES cx lG4
      have fH := bH6.frozen
      have cH := bH6.cell k hk
      obtain ⟨w5, hw5, bH5, hk5⟩ := bH6.put hk (.slice (some ⟨G, 0, none⟩) n n)
      go_upto_region 15 with fail
      clear hw5 fH cH
      have hbr5 := bKept hbr6 lH hk5
      have bx5 := bx6.kept n14H hk5; have bA5 := bA6.kept nAH hk5; have bV5 := bV6.kept nHV.symm hk5
      have bG5 : BlkE w5 G n (othN s xs n k) := bG6.kept nGH hk5
      have HO5 : Hid (∀ j, j < k → w.heap.size ≤ g j ∧ g j ≠ V ∧ g j ≠ H ∧ BlkE w5 (g j) n (othN s xs n j)) := fun j hj => by
        have h := HO6.out j hj
        exact ⟨h.1, h.2.1, h.2.2.1, h.2.2.2.kept h.2.2.1 hk5⟩
      clear hbr6 bx6 bA6 bH6 bV6 bG6 HO6 hk5
      have HG5 : Hid (Glob w5) := HG.out.below hbr5
      obtain ⟨y, ey⟩ : ∃ y, y = valN s xs n k := ⟨_, rfl⟩
      have HY : Hid (y = valN s xs n k) := ey
      have HEV : Hid (∀ w, Glob w → BlkE w G n (othN s xs n k) → Calls Tryd.prog 12 #[.int .i64 (s : Int), .slice (some ⟨G, 0, none⟩) n n, .agg #[.int .u64 ((limb 0 (x) : Nat) : Int), .int .u64 ((limb 1 (x) : Nat) : Int), .int .u64 ((limb 2 (x) : Nat) : Int), .int .u64 ((limb 3 (x) : Nat) : Int)]] w fun e w' => e = .returned (.agg #[.int .u64 ((limb 0 (y) : Nat) : Int), .int .u64 ((limb 1 (y) : Nat) : Int), .int .u64 ((limb 2 (y) : Nat) : Int), .int .u64 ((limb 3 (y) : Nat) : Int)]) ∧ Below w.heap.size w w') := fun w hg hB => by
        have h := pEval_any (fld_in s HS.out) (some ⟨G, 0, none⟩) n n x (othN s xs n k) (by omega) HXK.out (fun i _ => othN_M _ _ _ _ _) w hg (hB.Es (by unfold maxLen; omega))
        rw [ey]
        unfold valN
        rw [← HEX.out]
        exact h
      have hkk : k = k := rfl
      clear ey
      refine wp_region_Z (fun w' => Below w5.heap.size w5 w') 10 (by kernel_rfl) ?_
      obtain ⟨wD, hD⟩ : ∃ x : World, x = w5.drew := ⟨_, rfl⟩
      rw [← hD]
      have hp0_0 : Below w5.heap.size w5 wD := by rw [hD]; exact (Below.refl _ _).drew
      have hlow0 : Below w5.heap.size w5 wD := by rw [hD]; exact (Below.refl _ _).drew
      clear hD
      refine wpZ_take (i := 0) (v := .slice (some ⟨V, 0, none⟩) n n) 59 rfl rfl (by kernel_rfl) (by kernel_rfl) (by kernel_rfl) (Or.inl (by kernel_rfl)) (fun _ _ _ h => h) (Or.inl ⟨by rfl, fun w hSw => by go_simp⟩) hp0_0 ?_
      simp only [Act.put, List.setIfInBounds_toArray]
      dsimp only [List.set_cons_zero, List.set_cons_succ]
      refine wpZ_take (i := 1) (v := .int .i64 (k : Int)) 60 rfl rfl (by kernel_rfl) (by kernel_rfl) (by kernel_rfl) (Or.inl (by kernel_rfl)) (fun _ _ _ h => h) (Or.inl ⟨by rfl, fun w hSw => by go_simp⟩) hp0_0 ?_
      simp only [Act.put, List.setIfInBounds_toArray]
      dsimp only [List.set_cons_zero, List.set_cons_succ]
      refine wpZ_take (i := 2) (v := .int .i64 (s : Int)) 61 rfl rfl (by kernel_rfl) (by kernel_rfl) (by kernel_rfl) (Or.inl (by kernel_rfl)) (fun _ _ _ h => h) (Or.inl ⟨by rfl, fun w hSw => by go_simp⟩) hp0_0 ?_
      simp only [Act.put, List.setIfInBounds_toArray]
      dsimp only [List.set_cons_zero, List.set_cons_succ]
      refine wpZ_take (i := 3) (v := .slice (some ⟨H, 0, none⟩) n n) 62 rfl rfl (by kernel_rfl) (by kernel_rfl) (by kernel_rfl) (Or.inl (by kernel_rfl)) (fun _ _ _ h => h) (Or.inl ⟨by rfl, fun w hSw => by go_simp⟩) hp0_0 ?_
      simp only [Act.put, List.setIfInBounds_toArray]
      dsimp only [List.set_cons_zero, List.set_cons_succ]
      refine wpZ_take (i := 4) (v := .int .i64 (k : Int)) 63 rfl rfl (by kernel_rfl) (by kernel_rfl) (by kernel_rfl) (Or.inl (by kernel_rfl)) (fun _ _ _ h => h) (Or.inl ⟨by rfl, fun w hSw => by go_simp⟩) hp0_0 ?_
      simp only [Act.put, List.setIfInBounds_toArray]
      dsimp only [List.set_cons_zero, List.set_cons_succ]
      refine wpZ_take (i := 5) (v := .pointer (some ⟨H, k, none⟩)) 64 rfl rfl (by kernel_rfl) (by kernel_rfl) (by kernel_rfl) (Or.inl (by kernel_rfl)) (fun _ _ _ h => h) (Or.inl ⟨by rfl, fun w hSw => by go_simp⟩) hp0_0 ?_
      simp only [Act.put, List.setIfInBounds_toArray]
      dsimp only [List.set_cons_zero, List.set_cons_succ]
      refine wpZ_take (i := 6) (v := .slice (some ⟨G, 0, none⟩) n n) 65 rfl rfl (by kernel_rfl) (by kernel_rfl) (by kernel_rfl) (Or.inl (by kernel_rfl)) (fun _ _ _ h => h) (Or.inl ⟨by rfl, fun w hSw => by (have qq := ((bH5.belowAll hSw).cell k hk); rw [if_pos hkk] at qq; clear hSw; go_simp)⟩) hp0_0 ?_
      simp only [Act.put, List.setIfInBounds_toArray]
      dsimp only [List.set_cons_zero, List.set_cons_succ]
      refine wpZ_take (i := 7) (v := .agg #[.int .u64 ((limb 0 (x) : Nat) : Int), .int .u64 ((limb 1 (x) : Nat) : Int), .int .u64 ((limb 2 (x) : Nat) : Int), .int .u64 ((limb 3 (x) : Nat) : Int)]) 66 rfl rfl (by kernel_rfl) (by kernel_rfl) (by kernel_rfl) (Or.inl (by kernel_rfl)) (fun _ _ _ h => h) (Or.inl ⟨by rfl, fun w hSw => by (have qq := (bx5.belowAll hSw).cell; clear hSw; go_simp)⟩) hp0_0 ?_
      simp only [Act.put, List.setIfInBounds_toArray]
      dsimp only [List.set_cons_zero, List.set_cons_succ]
      refine wpZ_one (i := 8) (by kernel_rfl) rfl (fun K hK => ?_)
      go_simp
      refine (HEV.out wD (HG5.out.below hlow0) (bG5.belowAll hlow0)).mono ?_
      rintro e wT1 ⟨rfl, hbT1⟩
      have hlowT1 := bStep hlow0 hbT1
      go_wp2_with fail
      refine hK.out _ _ (fun _ => hlowT1) ?_
      clear hK K hbT1
      refine wpZ_take (i := 9) (v := .pointer (some ⟨V, (k * 4), none⟩)) 68 rfl rfl (by kernel_rfl) (by kernel_rfl) (by kernel_rfl) (Or.inl (by kernel_rfl)) (fun _ _ _ h => h) (Or.inl ⟨by rfl, fun w hSw => by go_simp⟩) hlowT1 ?_
      simp only [Act.put, List.setIfInBounds_toArray]
      dsimp only [List.set_cons_zero, List.set_cons_succ]
      refine wpZ_one (i := 10) (by kernel_rfl) rfl (fun K hK => ?_)
      have bS := bV5.belowAll hlowT1
      have q := bS.cell k hk
      have g0 := q 0 (by decide)
      have g1 := q 1 (by decide)
      have g2 := q 2 (by decide)
      have g3 := q 3 (by decide)
      rw [Nat.add_zero] at g0
      have fo := bS.frozen
      clear q
      obtain ⟨w7, hw7, bo7, hk7⟩ := bS.put hk y
      go_simp
      refine hK.out _ _ (fun h => absurd rfl h) ?_
      clear hK K
      refine wpZ_done (by kernel_rfl) ?_ _
      have hbr7 := bKept (bStep hbr5 hlowT1) lV hk7
      have bA7 := (bA5.belowAll hlowT1).kept nAV hk7
      have bH7 := (bH5.belowAll hlowT1).kept nHV hk7
      have HO7 : Hid (∀ j, j < k + 1 → w.heap.size ≤ (if j = k then G else g j) ∧ (if j = k then G else g j) ≠ V ∧ (if j = k then G else g j) ≠ H ∧ BlkE w7 (if j = k then G else g j) n (othN s xs n j)) := fun j hj => by
        by_cases c : j = k
        · rw [if_pos c, c]
          exact ⟨lG, nGV, nGH, (bG5.belowAll hlowT1).kept nGV hk7⟩
        · rw [if_neg c]
          have h := HO5.out j (by omega)
          exact ⟨h.1, h.2.1, h.2.2.1, (h.2.2.2.belowAll hlowT1).kept h.2.1 hk7⟩
      have bV7 : BlkE w7 V n (fun i => if i < k + 1 then valN s xs n i else 0) := bo7.congr (fun i hi => by
        by_cases c : i = k
        · rw [if_pos c, if_pos (by omega), c]; exact HY.out.symm
        · rw [if_neg c]
          by_cases d : i < k
          · rw [if_pos d, if_pos (by omega)]
          · rw [if_neg d, if_neg (by omega)])
      have bH8 : SlB w7 H n (fun i => if i < k + 1 then .slice (some ⟨if i = k then G else g i, 0, none⟩) n n else .slice none 0 0) := bH7.congr (fun i hi => by
        by_cases c : i = k
        · simp only [if_pos c, if_pos (show i < k + 1 by omega)]
        · by_cases d : i < k
          · simp only [if_neg c, if_pos d, if_pos (show i < k + 1 by omega)]
          · simp only [if_neg c, if_neg d, if_neg (show ¬ i < k + 1 by omega)])
      clear bS bo7 hk7 hbr5 fo hw7 g0 g1 g2 g3 bx5 bV5 bH5 bA5 bG5 bH7 HG5 HO5 HEV hlowT1
      go_wp2
      go_roundw
      case measure => simp [intOf]; omega
      case rel => exact ⟨k + 1, fun j => if j = k then G else g j, by go_num, by omega, hbr7, bA7, bH8, bV7, HO7.out⟩
    · have ek : k = n := by omega
      have hni : ¬ (k : Int) < (n : Int) := by omega
      have bV2 : BlkE wr V n (valN s xs n) := bV.congr (fun i hi => (if_pos (by omega)).symm)
      have bH2 : SlB wr H n (fun i => .slice (some ⟨g i, 0, none⟩) n n) := bH.congr (fun i hi => (if_pos (by omega)).symm)
      have HO2 : Hid (∀ j, j < n → w.heap.size ≤ g j ∧ g j ≠ V ∧ g j ≠ H ∧ BlkE wr (g j) n (othN s xs n j)) := fun j hj => HO.out j (by omega)
      clear bV bH HO ek
      go_wp2_with fail
      refine (fInvert_walk s n n V 0 (valN s xs n) HS.out (by omega) (fun i _ => valN_M _ _ _ _) wr (HG.out.below hbr) bV2.lt (fun i hi j hj => by rw [Nat.zero_add]; exact bV2.cell i hi j hj)).mono ?_
      rintro e w2 ⟨⟨hp, rfl⟩ | ⟨hp, SH, rfl, lSH, bSH2⟩, hb2⟩
      · have HP := (show Hid _ from hp)
        have hbw := bStep hbr hb2
        clear hp hb2 hbr bV2 bH2 HO2 bA
        go_wp2
        go_ret2
        exact ⟨Or.inl ⟨HP.out, rfl⟩, hbw⟩
      · have HP := (show Hid _ from hp)
        have hbr2 := bStep hbr hb2
        have bH3 := bH2.belowAll hb2
        have kH := bH2.lt
        have lw := hbr.size
        have nHSH : H ≠ SH := by omega
        have HO3 : Hid (∀ j, j < n → w.heap.size ≤ g j ∧ BlkE w2 (g j) n (othN s xs n j)) := fun j hj => by
          have h := HO2.out j hj
          exact ⟨h.1, h.2.2.2.belowAll hb2⟩
        clear hp hb2 hbr bV2 bH2 HO2 bA kH
        go_wp2_with (first
          | (at_make; refine wpList_make_full _ rfl _ _ 22 rfl w2.heap.size 33 i0 (.agg #[.int .u64 0, .int .u64 0, .int .u64 0, .int .u64 0]) 4 Tryd.underlying22 HIi0.out HZi0.out.1 HZi0.out.2.1 .i64 .i64 n n n rfl rfl rfl rfl ?c1 ?c2 (Nat.le_refl _) ?_)
          | go_in)
        case c1 => rw [HZi0.out.2.2]; omega
        case c2 => unfold maxLen; omega
        intro w3 hown hgrow
        obtain ⟨SB, eSB⟩ : ∃ G, G = w2.heap.size := ⟨_, rfl⟩
        rw [← eSB] at hown ⊢
        have bS3 : BlkE w3 SB n (fun _ => 0) := (own_blkE (f := fun _ => 0) hown (fun i hi j hj => by rw [made_zero n (i * 4 + j) (by omega), limb_zero]; rfl)).1
        have hbe : Below w2.heap.size w2 w3 := (Below.refl _ w2).grown hgrow (Nat.le_refl _) (fun j hj => by cases hj)
        have hb3 := bStep hbr2 hbe
        have kH := bH3.lt; have kSH := bSH2.lt
        have lSB : w.heap.size ≤ SB := by have := hbr2.size; omega
        have nHSB : H ≠ SB := by omega
        have nSHSB : SH ≠ SB := by omega
        have HO4 : Hid (∀ j, j < n → w.heap.size ≤ g j ∧ g j ≠ SB ∧ BlkE w3 (g j) n (othN s xs n j)) := fun j hj => by
          have h := HO3.out j hj
          have := h.2.lt
          exact ⟨h.1, by omega, h.2.belowAll hbe⟩
        have bH4 := bH3.belowAll hbe; have bSH4 := bSH2.belowAll hbe
        clear hown hgrow hbe hbr2 bH3 bSH2 eSB kH kSH HO3 lw lSH
        go_wp2
        go_loopw [84] (fun iv wr => ∃ k : Nat, iv = .int .i64 (k : Int) ∧ k ≤ n ∧ Below w.heap.size w wr ∧ SlB wr H n (fun i => .slice (some ⟨g i, 0, none⟩) n n) ∧ BlkE wr SH n (fun i => invU (modN s) (valN s xs n i)) ∧ BlkE wr SB n (accN s xs ys n k) ∧ Hid (∀ j, j < n → w.heap.size ≤ g j ∧ g j ≠ SB ∧ BlkE wr (g j) n (othN s xs n j))) (fun iv _ => n - (intOf iv).toNat)
        case atStart => exact ⟨0, rfl, Nat.zero_le _, hb3, bH4, bSH4, bS3.congr (fun i _ => rfl), HO4.out⟩
        case round =>
          obtain ⟨k, rfl, hkn, hbr, bH, bSH, bS, HO⟩ := hrel
          clear hb3 bH4 bSH4 bS3 HO4
          by_cases hk : k < n
          · have hki : (k : Int) < (n : Int) := by omega
            have hk0 : (0 : Int) ≤ (k : Int) := by omega
            rcases HU.out with ⟨_, h0⟩ | ⟨ab, ao, c', hv, _, _, lab, hcell⟩
            · omega
            cases hv
            have HYK : Hid (ys k < 115792089237316195423570985008687907853269984665640564039457584007913129639936) := HYM.out k hk
            have ca : ∀ j, j < 4 → wr.cell? ⟨ab, ao + k * 4 + j, none⟩ = some (.int .u64 ((limb j (ys k) : Nat) : Int)) := fun j hj => (hbr.cell (p := ⟨ab, ao + k * 4 + j, none⟩) lab).trans (hcell k hk j hj)
            obtain ⟨y, ey⟩ : ∃ y, y = ys k := ⟨_, rfl⟩
            rw [← ey] at ca HYK
            have HEY : Hid (y = ys k) := ey
            clear ey hcell
            have a0 := ca 0 (by decide); have a1 := ca 1 (by decide); have a2 := ca 2 (by decide); have a3 := ca 3 (by decide)
            rw [Nat.add_zero] at a0
            clear ca
            go_upto_region 24 with fail
            obtain ⟨N19, e19⟩ : ∃ z, z = wr.heap.size := ⟨_, rfl⟩
            obtain ⟨w5, hw5⟩ : ∃ z : World, z = wr.alloc (.cells #[.int .u64 ((limb 0 (y) : Nat) : Int), .int .u64 ((limb 1 (y) : Nat) : Int), .int .u64 ((limb 2 (y) : Nat) : Int), .int .u64 ((limb 3 (y) : Nat) : Int)] 33) := ⟨_, rfl⟩
            have by5 : Blk w5 33 N19 (fun i => limb i y) := by rw [hw5, e19]; exact Blk.newAt _ _ _ (fun i => limb i y) rfl
            have hbe : Below wr.heap.size wr w5 := by rw [hw5]; exact bAlloc (Below.refl _ _) _
            have hbr5 := bStep hbr hbe
            have bH5 := bH.belowAll hbe; have bSH5 := bSH.belowAll hbe; have bS5 := bS.belowAll hbe
            have kS := bS.lt
            have n19SB : N19 ≠ SB := by omega
            have HO5 : Hid (∀ j, j < n → w.heap.size ≤ g j ∧ g j ≠ SB ∧ BlkE w5 (g j) n (othN s xs n j)) := fun j hj => by
              have h := HO.out j hj
              exact ⟨h.1, h.2.1, h.2.2.belowAll hbe⟩
            rw [← hw5, ← e19]
            clear hw5 e19 a0 a1 a2 a3 hbr bH bSH bS HO hbe kS
            have HG5 : Hid (Glob w5) := HG.out.below hbr5
            obtain ⟨gk, egk⟩ : ∃ z, z = g k := ⟨_, rfl⟩
            have HGK : Hid (g k = gk) := egk.symm
            have bo5 : BlkE w5 gk n (othN s xs n k) := by rw [egk]; exact (HO5.out k hk).2.2
            have ngSB : gk ≠ SB := by rw [egk]; exact (HO5.out k hk).2.1
            obtain ⟨sh, esh⟩ : ∃ z, z = invU (modN s) (valN s xs n k) := ⟨_, rfl⟩
            have HSHE : Hid (invU (modN s) (valN s xs n k) = sh) := esh.symm
            have HSM : Hid (sh < 115792089237316195423570985008687907853269984665640564039457584007913129639936) := by rw [esh]; exact lt_M s _ (invU_lt _ _ (modN_pos s))
            obtain ⟨p, ep⟩ : ∃ z, z = mulP s y sh := ⟨_, rfl⟩
            have HMU : Hid (∀ w, Glob w → Calls Tryd.prog 23 #[.int .i64 (s : Int), .agg #[.int .u64 ((limb 0 (y) : Nat) : Int), .int .u64 ((limb 1 (y) : Nat) : Int), .int .u64 ((limb 2 (y) : Nat) : Int), .int .u64 ((limb 3 (y) : Nat) : Int)], .agg #[.int .u64 ((limb 0 (sh) : Nat) : Int), .int .u64 ((limb 1 (sh) : Nat) : Int), .int .u64 ((limb 2 (sh) : Nat) : Int), .int .u64 ((limb 3 (sh) : Nat) : Int)]] w fun e w' => e = .returned (.agg #[.int .u64 ((limb 0 (p) : Nat) : Int), .int .u64 ((limb 1 (p) : Nat) : Int), .int .u64 ((limb 2 (p) : Nat) : Int), .int .u64 ((limb 3 (p) : Nat) : Int)]) ∧ Below w.heap.size w w') := fun w hg => by rw [ep]; exact fMul_any s y sh HS.out HYK.out HSM.out w hg
            have HPM : Hid (p < 115792089237316195423570985008687907853269984665640564039457584007913129639936) := by rw [ep]; exact mulP_M _ _ _
            have HAC : Hid (∀ i, accN s xs ys n (k + 1) i = addP s (accN s xs ys n k i) (mulP s p (othN s xs n k i))) := fun i => by rw [ep, esh, HEY.out]; rfl
            have HAT : Hid (∀ w, Glob w → BlkE w SB n (accN s xs ys n k) → Es w (.slice (some ⟨gk, 0, none⟩) n n) n (othN s xs n k) → Calls Tryd.prog 22 #[.int .i64 (s : Int), .slice (some ⟨SB, 0, none⟩) n n, .agg #[.int .u64 ((limb 0 (p) : Nat) : Int), .int .u64 ((limb 1 (p) : Nat) : Int), .int .u64 ((limb 2 (p) : Nat) : Int), .int .u64 ((limb 3 (p) : Nat) : Int)], .slice (some ⟨gk, 0, none⟩) n n] w fun e w' => e = .returned (.tuple #[]) ∧ BlkE w' SB n (fun i => if 0 ≤ i ∧ i < 0 + n then addP s (accN s xs ys n k i) (mulP s p (othN s xs n k (i - 0))) else accN s xs ys n k i) ∧ Kept SB w w') := fun w hg hB hE =>
              addT_any (fld_in s HS.out) (some ⟨gk, 0, none⟩) n n SB n 0 0 n n p (othN s xs n k) (accN s xs ys n k) rfl (by omega) (by omega) (Nat.le_refl _) HPM.out (fun i _ => othN_M _ _ _ _ _) (fun i _ => accN_M _ _ _ _ _ _) (Nat.le_trans HG.out.ge lSB) (fun ab ao h => by cases h; exact ngSB) w hg hB hE
            clear egk esh ep
            refine wp_region_Z (fun w' => Blk w' 33 N19 (fun i => limb i y) ∧ SlB w' H n (fun i => .slice (some ⟨g i, 0, none⟩) n n) ∧ BlkE w' SH n (fun i => invU (modN s) (valN s xs n i))) 99 (by kernel_rfl) ?_
            obtain ⟨wD, hD⟩ : ∃ x : World, x = w5.drew := ⟨_, rfl⟩
            rw [← hD]
            have hp0_0 : Blk wD 33 N19 (fun i => limb i y) := by rw [hD]; exact by5.drew
            have hp1_0 : SlB wD H n (fun i => .slice (some ⟨g i, 0, none⟩) n n) := by rw [hD]; exact bH5.drew
            have hp2_0 : BlkE wD SH n (fun i => invU (modN s) (valN s xs n i)) := by rw [hD]; exact bSH5.drew
            have hlow0 : Below w5.heap.size w5 wD := by rw [hD]; exact (Below.refl _ _).drew
            clear hD
            refine wpZ_take (i := 0) (v := .int .i64 (s : Int)) 89 rfl rfl (by kernel_rfl) (by kernel_rfl) (by kernel_rfl) (Or.inr (by decide)) (fun _ _ _ h => h) (Or.inl ⟨by rfl, fun w hSw => by go_simp⟩) ⟨hp0_0, hp1_0, hp2_0⟩ ?_
            simp only [Act.put, List.setIfInBounds_toArray]
            dsimp only [List.set_cons_zero, List.set_cons_succ]
            refine wpZ_take (i := 1) (v := .slice (some ⟨SB, 0, none⟩) n n) 90 rfl rfl (by kernel_rfl) (by kernel_rfl) (by kernel_rfl) (Or.inr (by decide)) (fun _ _ _ h => h) (Or.inl ⟨by rfl, fun w hSw => by go_simp⟩) ⟨hp0_0, hp1_0, hp2_0⟩ ?_
            simp only [Act.put, List.setIfInBounds_toArray]
            dsimp only [List.set_cons_zero, List.set_cons_succ]
            refine wpZ_take (i := 2) (v := .int .i64 (s : Int)) 91 rfl rfl (by kernel_rfl) (by kernel_rfl) (by kernel_rfl) (Or.inr (by decide)) (fun _ _ _ h => h) (Or.inl ⟨by rfl, fun w hSw => by go_simp⟩) ⟨hp0_0, hp1_0, hp2_0⟩ ?_
            simp only [Act.put, List.setIfInBounds_toArray]
            dsimp only [List.set_cons_zero, List.set_cons_succ]
            refine wpZ_take (i := 3) (v := .agg #[.int .u64 ((limb 0 (y) : Nat) : Int), .int .u64 ((limb 1 (y) : Nat) : Int), .int .u64 ((limb 2 (y) : Nat) : Int), .int .u64 ((limb 3 (y) : Nat) : Int)]) 92 rfl rfl (by kernel_rfl) (by kernel_rfl) (by kernel_rfl) (Or.inr (by decide)) (fun _ _ _ h => h) (Or.inl ⟨by rfl, fun w hSw => by (have qq := (hSw.1).cell; clear hSw; go_simp)⟩) ⟨hp0_0, hp1_0, hp2_0⟩ ?_
            simp only [Act.put, List.setIfInBounds_toArray]
            dsimp only [List.set_cons_zero, List.set_cons_succ]
            refine wpZ_take (i := 4) (v := .slice (some ⟨SH, 0, none⟩) n n) 93 rfl rfl (by kernel_rfl) (by kernel_rfl) (by kernel_rfl) (Or.inr (by decide)) (fun _ _ _ h => h) (Or.inl ⟨by rfl, fun w hSw => by go_simp⟩) ⟨hp0_0, hp1_0, hp2_0⟩ ?_
            simp only [Act.put, List.setIfInBounds_toArray]
            dsimp only [List.set_cons_zero, List.set_cons_succ]
            refine wpZ_take (i := 5) (v := .int .i64 (k : Int)) 94 rfl rfl (by kernel_rfl) (by kernel_rfl) (by kernel_rfl) (Or.inr (by decide)) (fun _ _ _ h => h) (Or.inl ⟨by rfl, fun w hSw => by go_simp⟩) ⟨hp0_0, hp1_0, hp2_0⟩ ?_
            simp only [Act.put, List.setIfInBounds_toArray]
            dsimp only [List.set_cons_zero, List.set_cons_succ]
            refine wpZ_take (i := 6) (v := .pointer (some ⟨SH, (k * 4), none⟩)) 95 rfl rfl (by kernel_rfl) (by kernel_rfl) (by kernel_rfl) (Or.inr (by decide)) (fun _ _ _ h => h) (Or.inl ⟨by rfl, fun w hSw => by go_simp⟩) ⟨hp0_0, hp1_0, hp2_0⟩ ?_
            simp only [Act.put, List.setIfInBounds_toArray]
            dsimp only [List.set_cons_zero, List.set_cons_succ]
            refine wpZ_take (i := 7) (v := .agg #[.int .u64 ((limb 0 (sh) : Nat) : Int), .int .u64 ((limb 1 (sh) : Nat) : Int), .int .u64 ((limb 2 (sh) : Nat) : Int), .int .u64 ((limb 3 (sh) : Nat) : Int)]) 96 rfl rfl (by kernel_rfl) (by kernel_rfl) (by kernel_rfl) (Or.inr (by decide)) (fun _ _ _ h => h) (Or.inl ⟨by rfl, fun w hSw => by (have q := hSw.2.2.cell k hk; have q0 := q 0 (by decide); have q1 := q 1 (by decide); have q2 := q 2 (by decide); have q3 := q 3 (by decide); rw [Nat.add_zero] at q0; rw [HSHE.out] at q0 q1 q2 q3; clear hSw q; go_simp)⟩) ⟨hp0_0, hp1_0, hp2_0⟩ ?_
            simp only [Act.put, List.setIfInBounds_toArray]
            dsimp only [List.set_cons_zero, List.set_cons_succ]
            refine wpZ_take (i := 9) (v := .slice (some ⟨H, 0, none⟩) n n) 98 rfl rfl (by kernel_rfl) (by kernel_rfl) (by kernel_rfl) (Or.inr (by decide)) (fun _ _ _ h => h) (Or.inl ⟨by rfl, fun w hSw => by go_simp⟩) ⟨hp0_0, hp1_0, hp2_0⟩ ?_
            simp only [Act.put, List.setIfInBounds_toArray]
            dsimp only [List.set_cons_zero, List.set_cons_succ]
            refine wpZ_take (i := 10) (v := .int .i64 (k : Int)) 99 rfl rfl (by kernel_rfl) (by kernel_rfl) (by kernel_rfl) (Or.inr (by decide)) (fun _ _ _ h => h) (Or.inl ⟨by rfl, fun w hSw => by go_simp⟩) ⟨hp0_0, hp1_0, hp2_0⟩ ?_
            simp only [Act.put, List.setIfInBounds_toArray]
            dsimp only [List.set_cons_zero, List.set_cons_succ]
            refine wpZ_take (i := 11) (v := .pointer (some ⟨H, k, none⟩)) 100 rfl rfl (by kernel_rfl) (by kernel_rfl) (by kernel_rfl) (Or.inr (by decide)) (fun _ _ _ h => h) (Or.inl ⟨by rfl, fun w hSw => by go_simp⟩) ⟨hp0_0, hp1_0, hp2_0⟩ ?_
            simp only [Act.put, List.setIfInBounds_toArray]
            dsimp only [List.set_cons_zero, List.set_cons_succ]
            refine wpZ_take (i := 12) (v := .slice (some ⟨gk, 0, none⟩) n n) 101 rfl rfl (by kernel_rfl) (by kernel_rfl) (by kernel_rfl) (Or.inr (by decide)) (fun _ _ _ h => h) (Or.inl ⟨by rfl, fun w hSw => by (have qq := hSw.2.1.cell k hk; rw [HGK.out] at qq; clear hSw; go_simp)⟩) ⟨hp0_0, hp1_0, hp2_0⟩ ?_
            simp only [Act.put, List.setIfInBounds_toArray]
            dsimp only [List.set_cons_zero, List.set_cons_succ]
            refine wpZ_one (i := 8) (by kernel_rfl) rfl (fun K hK => ?_)
            go_simp
            refine (HMU.out wD (HG5.out.below hlow0)).mono ?_
            rintro e wK1 ⟨rfl, hbK1⟩
            have hlow1 := bStep hlow0 hbK1
            have hp0_1 := (hp0_0).belowAll hbK1
            have hp1_1 := (hp1_0).belowAll hbK1
            have hp2_1 := (hp2_0).belowAll hbK1
            go_wp2_with fail
            refine hK.out _ _ (fun _ => ⟨hp0_1, hp1_1, hp2_1⟩) ?_
            clear hK K
            refine wpZ_one (i := 13) (by kernel_rfl) rfl (fun K hK => ?_)
            go_simp
            refine (HAT.out wK1 (HG5.out.below hlow1) (bS5.belowAll hlow1) ((bo5.belowAll hlow1).Es (by unfold maxLen; omega))).mono ?_
            rintro e w7 ⟨rfl, bS7, hk7⟩
            have by7 := (hp0_1).kept n19SB hk7; have bH7 := (hp1_1).kept nHSB hk7; have bSH7 := (hp2_1).kept nSHSB hk7
            go_wp2_with fail
            refine hK.out _ _ (fun _ => ⟨by7, bH7, bSH7⟩) ?_
            clear hK K
            refine wpZ_done (by kernel_rfl) ?_ _
            have hbr7 := bKept (bStep hbr5 hlow1) lSB hk7
            have HO7 : Hid (∀ j, j < n → w.heap.size ≤ g j ∧ g j ≠ SB ∧ BlkE w7 (g j) n (othN s xs n j)) := fun j hj => by
              have h := HO5.out j hj
              exact ⟨h.1, h.2.1, (h.2.2.belowAll hlow1).kept h.2.1 hk7⟩
            have bS8 : BlkE w7 SB n (accN s xs ys n (k + 1)) := bS7.congr (fun i hi => by rw [if_pos ⟨Nat.zero_le _, by omega⟩, Nat.sub_zero]; exact HAC.out i)
            clear hbr5 bH5 bSH5 bS5 bo5 by5 HO5 HG5 HAT HMU bS7 hk7
            go_wp2
            go_roundw
            case measure => simp [intOf]; omega
            case rel => exact ⟨k + 1, by go_num, by omega, hbr7, bH7, bSH7, bS8, HO7.out⟩
          · have hni : ¬ (k : Int) < (n : Int) := by omega
            have ek : k = n := by omega
            rw [ek] at bS
            clear ek
            go_wp2_with fail
            refine (pCut_any (fld_in s HS.out) SB 0 n n (accN s xs ys n n) (by omega) (fun i _ => accN_M _ _ _ _ _ _) wr (HG.out.below hbr) (bS.Es (by unfold maxLen; omega))).mono ?_
            rintro e w4 ⟨rfl, hb4⟩
            have hbw := bStep hbr hb4
            have bS4 := bS.belowAll hb4
            clear hbr hb4 bS bH bSH HO
            go_wp2
            go_ret2
            exact ⟨Or.inr ⟨HP.out, SB, rfl, lSB, bS4⟩, hbw⟩

end Go.Proofs.YtfahhohhpjlhnaaDoor
