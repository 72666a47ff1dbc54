/- permute: the cells in all rows. -/
import Derived.Test.YtfbfenljfdnggaaGreatDoorVW7
import Derived.Test.YtfbfenljfdnggaaGreatDoorVPC3
import Derived.Test.YtfbfenljfdnggaaGreatDoorVW3
namespace Go.Proofs.YtfbfenljfdnggaaGreatDoor
open Go.RowKit
/-- A block of slices (of lists of a type). -/
def SlT (t : TypeId) (w : World) (H n : Nat) (c : Nat → Value) : Prop := ∃ cs, w.heap[H]? = some (.cells cs t) ∧ cs.size = n ∧ ∀ i, i < n → cs[i]? = some (c i)
section
variable {t : TypeId} {w w' : World} {H n : Nat} {c c' : Nat → Value}
theorem SlT.lt (h : SlT t w H n c) : H < w.heap.size := by
  obtain ⟨cs, hc, _⟩ := h
  exact (Array.getElem?_eq_some_iff.1 hc).1
theorem SlT.cell (h : SlT t w H n c) : ∀ i, i < n → w.cell? ⟨H, i, none⟩ = some (c i) := by
  obtain ⟨cs, hc, hs, hf⟩ := h
  intro i hi
  simp [World.cell?, hc, hf i hi]
theorem SlT.frozen (h : SlT t w H n c) : ∀ o, w.frozen? ⟨H, o, none⟩ = false := by
  obtain ⟨cs, hc, _⟩ := h
  intro o
  simp [World.frozen?, hc]
theorem SlT.same (h : SlT t w H n c) (e : w'.heap[H]? = w.heap[H]?) : SlT t w' H n c := by
  obtain ⟨cs, hc, hs⟩ := h
  exact ⟨cs, by rw [e]; exact hc, hs⟩
theorem SlT.belowAll (h : SlT t w H n c) (hb : Below w.heap.size w w') : SlT t w' H n c := h.same (hb.block H h.lt)
theorem SlT.kept {g : Nat} (h : SlT t w H n c) (hne : H ≠ g) (hk : Kept g w w') : SlT t w' H n c := h.same (hk.block H h.lt hne)
theorem SlT.congr (h : SlT t w H n c) (hg : ∀ i, i < n → c' i = c i) : SlT t w H n c' := by
  obtain ⟨cs, hc, hs, hf⟩ := h
  exact ⟨cs, hc, hs, fun i hi => by rw [hf i hi, hg i hi]⟩
theorem SlT.put (h : SlT t w H n c) {k : Nat} (hk : k < n) (v : Value) : ∃ w', w.setCell ⟨H, k, none⟩ v = w' ∧ SlT t w' H n (fun i => if i = k then v else c i) ∧ Kept H w w' := by
  refine ⟨_, rfl, ?_, (Kept.refl H w).setCell k v⟩
  obtain ⟨cs, hc, hs, hf⟩ := h
  refine ⟨cs.setIfInBounds k v, ?_, by simp [hs], ?_⟩
  · simp [World.setCell, Array.getElem?_modify, hc]
  · intro i hi
    by_cases e : i = k
    · subst e; simp [hs, hi]
    · simp [e, Ne.symm (fun h => e h), hf i hi]
end
theorem CelK.kept {w w' : World} {b n g : Nat} {A B D : Nat → Nat} (h : CelK w b n A B D) (hne : b ≠ g) (hk : Kept g w w') : CelK w' b n A B D := by
  have hl := h.lt
  obtain ⟨c, hc, hs⟩ := h
  exact ⟨c, by rw [hk.block b hl hne]; exact hc, hs⟩
theorem celsInfo : ∃ i : TypeInfo, Tryz.prog.info? 122 = some i ∧ i.zero = some (.slice none 0 0) ∧ i.size = 1 ∧ i.bytes = 24 := by
  match h : Tryz.prog.info? 122 with
  | some i => exact ⟨i, rfl, by have e : (Tryz.prog.info? 122).bind (·.zero) = some (.slice none 0 0) := by kernel_rfl
                                rw [h] at e; exact e, by have e : (Tryz.prog.info? 122).map (·.size) = some 1 := by kernel_rfl
                                                         rw [h] at e; exact Option.some.inj e, by have e : (Tryz.prog.info? 122).map (·.bytes) = some 24 := by kernel_rfl
                                                                                                  rw [h] at e; exact Option.some.inj e⟩
  | none => have e : (Tryz.prog.info? 122).map (·.size) = some 1 := by kernel_rfl
            rw [h] at e; cases e
theorem made_nil (n t : Nat) (ht : t < n) : (madeCells #[.slice none 0 0] n).toList[t]? = some (.slice none 0 0) := by
  rw [Array.getElem?_toList]
  unfold madeCells
  rw [Array.getElem?_map, Array.getElem?_range, if_pos ht]
  show some _ = _
  dsimp only
  rw [show (#[Value.slice none 0 0] : Array Value).size = 1 from rfl, show t % 1 = 0 from Nat.mod_one t]
  rfl
theorem own_SlT {t : TypeId} {w : World} {base g n : Nat} {xs : List Value} {c : Nat → Value} (h : w.ownsRow base t 1 (.slice (some ⟨g, 0, none⟩) n n) n xs) (hf : ∀ i, i < n → xs[i]? = some (c i)) : SlT t w g n c ∧ base ≤ g := by
  obtain ⟨hl, h⟩ := h
  rcases h with ⟨h0, h1⟩ | ⟨g', cc, cur, h1, hb, hg, hc, _, hs, ht⟩
  · cases h0
  · cases h1
    refine ⟨⟨cur, hg, by rw [hs, Nat.mul_one], ?_⟩, hb⟩
    intro i hi
    rw [← hf i hi, ← ht, List.getElem?_take_of_lt (by omega), Array.getElem?_toList]
set_option maxHeartbeats 8000000 in
set_option maxRecDepth 100000 in
/-- The cells in all rows. -/
theorem rows_any (s q m cm cn cc g : Nat) (om on : Option Addr) (F F2 : Nat → Value) (L L2 : Nat → Nat) (X Y : Nat → Nat → Nat) (ag : Array Value) (be ga : Nat) (st pt : Nat → Nat) (hs : s < 4) (hq : 3 ≤ q ∧ q ≤ 5) (hm : m ≤ 1000) (hA : AgP ag (s : Int) be ga (.slice (some ⟨g, 0, none⟩) m cc)) (hpM : ∀ r, pt r < 115792089237316195423570985008687907853269984665640564039457584007913129639936) (hsM : ∀ i, st i < 115792089237316195423570985008687907853269984665640564039457584007913129639936)
    (hpts : ∀ w, GlobD w → Calls Tryz.prog 51 #[.int .i64 (s : Int), .int .i64 (q : Int)] w fun e w' => (∃ g, e = .returned (.tuple #[.slice (some ⟨g, 0, none⟩) (2 ^ q) (2 ^ q), .int .i64 0]) ∧ w.heap.size ≤ g ∧ BlkE w' g (2 ^ q) pt) ∧ Below w.heap.size w w') (hL : ∀ i, i < m → L i = 2 ^ q) (hL2 : ∀ i, i < m → L2 i = 2 ^ q) (w : World) (hg : GlobD w) (hst : BlkE w g m st) (h1 : Tab w (.slice om m cm) m F L X) (h2 : Tab w (.slice on m cn) m F2 L2 Y) :
    Calls Tryz.prog 26 #[.agg ag, .int .i64 (q : Int), .slice om m cm, .slice on m cn] w fun e w' => (∃ (H : Nat) (G : Nat → Nat), e = .returned (.tuple #[.slice (some ⟨H, 0, none⟩) (2 ^ q - 4 : Nat) (2 ^ q - 4 : Nat), .int .i64 0]) ∧ w.heap.size ≤ H ∧ SlT 122 w' H (2 ^ q - 4) (fun r => .slice (some ⟨G r, 0, none⟩) m m) ∧ ∀ r, r < 2 ^ q - 4 → w.heap.size ≤ G r ∧ CelK w' (G r) m (fun i => X i r) (fun i => mulP s (st i) (pt r)) (fun i => Y i r)) ∧ Below w.heap.size w w' := by
  obtain ⟨i1, hr0, hy0, hy1, hy2⟩ := celsInfo
  have HI := (show Hid _ from hr0); have HZ := (show Hid _ from And.intro hy0 (And.intro hy1 hy2)); clear hr0 hy0 hy1 hy2
  have hUS := usable_any (q : Int)
  rw [if_pos (by omega)] at hUS
  obtain ⟨P, eP⟩ : ∃ P, P = 2 ^ q := ⟨_, rfl⟩
  have hP8 : 8 ≤ P ∧ P ≤ 32 := by rw [eP]; exact ⟨Nat.pow_le_pow_right (n := 2) (by decide) hq.1, Nat.pow_le_pow_right (n := 2) (by decide) hq.2⟩
  obtain ⟨u, eu⟩ : ∃ u, u = P - 4 := ⟨_, rfl⟩
  have HUS : Hid (∀ w, Calls Tryz.prog 53 #[.int .i64 (q : Int)] w fun e w' => e = .returned (.int .i64 (u : Int)) ∧ w' = w) := by
    intro w
    have h := hUS w
    rw [show ((2 : Int) ^ (q : Int).toNat - 4) = (u : Int) by rw [Int.toNat_natCast, eu, Int.ofNat_sub (by omega), eP]; simp] at h
    exact h
  have HPT : Hid (∀ w, GlobD w → Calls Tryz.prog 51 #[.int .i64 (s : Int), .int .i64 (q : Int)] w fun e w' => (∃ g, e = .returned (.tuple #[.slice (some ⟨g, 0, none⟩) (2 ^ q) (2 ^ q), .int .i64 0]) ∧ w.heap.size ≤ g ∧ BlkE w' g (2 ^ q) pt) ∧ Below w.heap.size w w') := hpts
  rw [← eP] at HPT hL hL2 ⊢
  rw [← eu]
  have HIN1 : Hid (∀ r, r < P → ∀ w', Below w.heap.size w w' → Calls Tryz.prog 59 #[.slice om m cm, .int .i64 (r : Int)] w' fun e w'' => (∃ G, e = .returned (.slice (some ⟨G, 0, none⟩) m m) ∧ w'.heap.size ≤ G ∧ BlkE w'' G m (fun i => X i r)) ∧ Below w'.heap.size w' w'') := fun r hr w' hb => inRow_any r P m cm om F L X hm hL hr w' (h1.below hb)
  have HIN2 : Hid (∀ r, r < P → ∀ w', Below w.heap.size w w' → Calls Tryz.prog 59 #[.slice on m cn, .int .i64 (r : Int)] w' fun e w'' => (∃ G, e = .returned (.slice (some ⟨G, 0, none⟩) m m) ∧ w'.heap.size ≤ G ∧ BlkE w'' G m (fun i => Y i r)) ∧ Below w'.heap.size w' w'') := fun r hr w' hb => inRow_any r P m cn on F2 L2 Y hm hL2 hr w' (h2.below hb)
  have HCE : Hid (∀ r A B w', Below w.heap.size w w' → BlkE w' A m (fun i => X i r) → BlkE w' B m (fun i => Y i r) → Calls Tryz.prog 58 #[.agg ag, .agg #[.int .u64 ((limb 0 (pt r) : Nat) : Int), .int .u64 ((limb 1 (pt r) : Nat) : Int), .int .u64 ((limb 2 (pt r) : Nat) : Int), .int .u64 ((limb 3 (pt r) : Nat) : Int)], .slice (some ⟨A, 0, none⟩) m m, .slice (some ⟨B, 0, none⟩) m m] w' fun e w'' => (∃ G, e = .returned (.slice (some ⟨G, 0, none⟩) m m) ∧ w'.heap.size ≤ G ∧ CelK w'' G m (fun i => X i r) (fun i => mulP s (st i) (pt r)) (fun i => Y i r)) ∧ Below w'.heap.size w' w'') := fun r A B w' hb bA bB =>
    cells_any s m m cc m m A 0 B 0 g (pt r) ag be ga st (fun i => X i r) (fun i => Y i r) hs (Nat.le_refl _) hm hA (hpM r) hsM w' (hg.below hb).1 (hst.below hb (hst.lt)) bA.lt (fun i hi j hj => by have h := bA.cell i hi j hj; rw [Nat.zero_add]; exact h) bB.lt (fun i hi j hj => by have h := bB.cell i hi j hj; rw [Nat.zero_add]; exact h)
  have HG : Hid (GlobD w) := hg
  have HU : Hid (u + 4 = P ∧ u ≤ 28) := by show _ ∧ _; omega
  obtain ⟨si, esi⟩ : ∃ z : Int, z = (s : Int) := ⟨_, rfl⟩
  rw [← esi] at HPT hA
  have HAV : Hid (AgP ag si be ga (.slice (some ⟨g, 0, none⟩) m cc)) := hA
  have HMO : Hid (∀ r i, mulP s (st i) (pt r) = mulP s (st i) (pt r)) := fun _ _ => rfl
  clear hg hst h1 h2 hpts hL hL2 hA hUS hP8 eu eP hpM hsM hs hq esi
  go_enter Tryz.func26, Tryz.ntmps26
  go_upto_region 1 with fail
  obtain ⟨N4, e0⟩ : ∃ z, z = w.heap.size := ⟨_, rfl⟩
  obtain ⟨w1, hw1⟩ : ∃ z : World, z = w.alloc (.cells ag 75) := ⟨_, rfl⟩
  have b4 : Lay w1 75 N4 ag := by rw [hw1]; exact Lay.newAt _ _ _ e0
  have hb1 : Below w.heap.size w w1 := by rw [hw1]; exact bAlloc (Below.refl _ _) _
  rw [← hw1]
  try rw [← e0]
  clear hw1 e0
  have c0 := b4.at HAV.out.2.1
  go_wp2_with fail
  refine (HPT.out w1 (HG.out.below hb1)).mono ?_
  rintro e w2 ⟨⟨pg, rfl, lpg, bpg⟩, hb⟩
  have hb2 := bStep hb1 hb
  have b42 := b4.belowAll hb
  clear b4 hb hb1 c0 HPT lpg
  go_wp2_with fail
  refine (HUS.out w2).mono ?_
  rintro e w3 ⟨rfl, e3⟩
  subst e3
  go_wp2_with (first
    | (at_make; refine wpList_make_full _ rfl _ _ 78 rfl w3.heap.size 122 i1 (.slice none 0 0) 1 Tryz.underlying78 HI.out HZ.out.1 HZ.out.2.1 .i64 .i64 u u u rfl rfl rfl rfl ?c1 ?c2 (Nat.le_refl _) ?_)
    | go_in)
  case c1 => rw [HZ.out.2.2]; have := HU.out; omega
  case c2 => have := HU.out; unfold maxLen; omega
  intro w5 hown hgrow
  obtain ⟨H, eH⟩ : ∃ H, H = w3.heap.size := ⟨_, rfl⟩
  rw [← eH] at hown ⊢
  have bH5 : SlT 122 w5 H u (fun _ => .slice none 0 0) := (own_SlT (c := fun _ => .slice none 0 0) hown (fun i hi => made_nil u i hi)).1
  have hbe := (Below.refl _ w3).grown hgrow (Nat.le_refl _) (fun j hj => by cases hj)
  have HL3 : Hid (w3.heap.size ≤ H) := by show _ ≤ _; omega
  have HP3 : Hid (BlkE w3 pg P pt ∧ Lay w3 75 N4 ag ∧ Below w.heap.size w w3) := ⟨bpg, b42, hb2⟩
  clear hown hgrow eH HI HZ bpg b42 hb2 HUS
  go_wp2
  go_loopw [29] (fun iv wr => ∃ (r : Nat) (G : Nat → Nat), iv = .int .i64 (r : Int) ∧ r ≤ u ∧ Below w3.heap.size w3 wr ∧ SlT 122 wr H u (fun i => if i < r then .slice (some ⟨G i, 0, none⟩) m m else .slice none 0 0) ∧ Hid (∀ i, i < r → CelK wr (G i) m (fun j => X j i) (fun j => mulP s (st j) (pt i)) (fun j => Y j i) ∧ G i ≠ H ∧ w3.heap.size ≤ G i)) (fun iv _ => u - (intOf iv).toNat)
  case atStart => exact ⟨0, fun _ => 0, rfl, Nat.zero_le _, hbe, bH5.congr (fun i _ => if_neg (by omega)), fun i hi => absurd hi (by omega)⟩
  case round =>
    obtain ⟨r, G, rfl, hr, hbr, bH, HGS⟩ := hrel
    clear hbe bH5
    by_cases hlt : r < u
    · have hu28 : u ≤ 28 := HU.out.2
      have hri : (r : Int) < (u : Int) := by omega
      have hrP : (r : Int) < (P : Int) := by have := HU.out; omega
      have hr0 : (0 : Int) ≤ (r : Int) := by omega
      have HRP : Hid (r < P) := by show _ < _; have := HU.out; omega
      obtain ⟨x, ex⟩ : ∃ x, x = pt r := ⟨_, rfl⟩
      have bpr := HP3.out.1.belowAll hbr
      have HXP : Hid (∀ w', Below wr.heap.size wr w' → w'.cell? ⟨pg, r * 4, none⟩ = some (.int .u64 ((limb 0 x : Nat) : Int)) ∧ w'.cell? ⟨pg, r * 4 + 1, none⟩ = some (.int .u64 ((limb 1 x : Nat) : Int)) ∧ w'.cell? ⟨pg, r * 4 + 2, none⟩ = some (.int .u64 ((limb 2 x : Nat) : Int)) ∧ w'.cell? ⟨pg, r * 4 + 3, none⟩ = some (.int .u64 ((limb 3 x : Nat) : Int))) := by
        intro w' hb
        have q := (bpr.belowAll hb).cell r HRP.out
        have q0 := q 0 (by decide); have q1 := q 1 (by decide); have q2 := q 2 (by decide); have q3 := q 3 (by decide)
        rw [Nat.add_zero] at q0
        rw [ex]
        exact ⟨q0, q1, q2, q3⟩
      have HI1 : Hid (∀ w', Below w.heap.size w w' → _) := HIN1.out r HRP.out
      have HI2 : Hid (∀ w', Below w.heap.size w w' → _) := HIN2.out r HRP.out
      have HC1 : Hid (∀ A B w', Below w.heap.size w w' → _) := HCE.out r
      obtain ⟨Xr, eXr⟩ : ∃ f : Nat → Nat, f = fun i => X i r := ⟨_, rfl⟩
      obtain ⟨Yr, eYr⟩ : ∃ f : Nat → Nat, f = fun i => Y i r := ⟨_, rfl⟩
      obtain ⟨Ow, eOr⟩ : ∃ f : Nat → Nat, f = fun i => mulP s (st i) (pt r) := ⟨_, rfl⟩
      rw [← eXr] at HI1 HC1
      rw [← eYr] at HI2 HC1
      rw [← eOr, ← ex] at HC1
      have HXY : Hid (Xr = (fun i => X i r) ∧ Yr = (fun i => Y i r) ∧ Ow = fun i => mulP s (st i) (pt r)) := ⟨eXr, eYr, eOr⟩
      have r4 := HP3.out.2.1.belowAll hbr
      have HS10 : Hid ((Tryz.prog.info? 75).map (·.size) = some ag.size) := by rw [HAV.out.1]; exact sizG
      have HBR : Hid (Below w.heap.size w wr) := bStep HP3.out.2.2 hbr
      clear bpr ex eXr eYr eOr
      go_upto_region 8 with fail
      refine wp_region_Z (fun w' => Below wr.heap.size wr w') 15 (by kernel_rfl) ?_
      obtain ⟨wD, hD⟩ : ∃ x : World, x = wr.drew := ⟨_, rfl⟩
      rw [← hD]
      have hp0_0 : Below wr.heap.size wr wD := by rw [hD]; exact (Below.refl _ _).drew
      have hlow0 : Below wr.heap.size wr wD := by rw [hD]; exact (Below.refl _ _).drew
      clear hD
      refine wpZ_take (i := 0) (v := .slice (some ⟨H, 0, none⟩) u u) 32 rfl rfl (by kernel_rfl) (by kernel_rfl) (by kernel_rfl) (Or.inl (by kernel_rfl)) (fun _ _ _ h => h) (Or.inl ⟨by rfl, fun w hSw => by go_simp⟩) hp0_0 ?_
      simp only [Act.put, List.setIfInBounds_toArray]
      dsimp only [List.set_cons_zero, List.set_cons_succ]
      refine wpZ_take (i := 1) (v := .int .i64 (r : Int)) 33 rfl rfl (by kernel_rfl) (by kernel_rfl) (by kernel_rfl) (Or.inl (by kernel_rfl)) (fun _ _ _ h => h) (Or.inl ⟨by rfl, fun w hSw => by go_simp⟩) hp0_0 ?_
      simp only [Act.put, List.setIfInBounds_toArray]
      dsimp only [List.set_cons_zero, List.set_cons_succ]
      refine wpZ_take (i := 2) (v := .agg ag) 34 rfl rfl (by kernel_rfl) (by kernel_rfl) (by kernel_rfl) (Or.inl (by kernel_rfl)) (fun _ _ _ h => h) (yLd undG rfl _ rfl N4 rfl ag HS10.out (fun w hSw => r4.belowAll hSw)) hp0_0 ?_
      simp only [Act.put, List.setIfInBounds_toArray]
      dsimp only [List.set_cons_zero, List.set_cons_succ]
      refine wpZ_take (i := 3) (v := .slice (some ⟨pg, 0, none⟩) P P) 35 rfl rfl (by kernel_rfl) (by kernel_rfl) (by kernel_rfl) (Or.inl (by kernel_rfl)) (fun _ _ _ h => h) (Or.inl ⟨by rfl, fun w hSw => by go_simp⟩) hp0_0 ?_
      simp only [Act.put, List.setIfInBounds_toArray]
      dsimp only [List.set_cons_zero, List.set_cons_succ]
      refine wpZ_take (i := 4) (v := .int .i64 (r : Int)) 36 rfl rfl (by kernel_rfl) (by kernel_rfl) (by kernel_rfl) (Or.inl (by kernel_rfl)) (fun _ _ _ h => h) (Or.inl ⟨by rfl, fun w hSw => by go_simp⟩) hp0_0 ?_
      simp only [Act.put, List.setIfInBounds_toArray]
      dsimp only [List.set_cons_zero, List.set_cons_succ]
      refine wpZ_take (i := 5) (v := .pointer (some ⟨pg, r * 4, none⟩)) 37 rfl rfl (by kernel_rfl) (by kernel_rfl) (by kernel_rfl) (Or.inl (by kernel_rfl)) (fun _ _ _ h => h) (Or.inl ⟨by rfl, fun w hSw => by go_simp⟩) hp0_0 ?_
      simp only [Act.put, List.setIfInBounds_toArray]
      dsimp only [List.set_cons_zero, List.set_cons_succ]
      refine wpZ_take (i := 6) (v := .agg #[.int .u64 ((limb 0 (x) : Nat) : Int), .int .u64 ((limb 1 (x) : Nat) : Int), .int .u64 ((limb 2 (x) : Nat) : Int), .int .u64 ((limb 3 (x) : Nat) : Int)]) 38 rfl rfl (by kernel_rfl) (by kernel_rfl) (by kernel_rfl) (Or.inl (by kernel_rfl)) (fun _ _ _ h => h) (Or.inl ⟨by rfl, fun w hSw => by (obtain ⟨q0, q1, q2, q3⟩ := HXP.out w hSw; clear hSw; go_simp)⟩) hp0_0 ?_
      simp only [Act.put, List.setIfInBounds_toArray]
      dsimp only [List.set_cons_zero, List.set_cons_succ]
      refine wpZ_take (i := 7) (v := .slice om m cm) 39 rfl rfl (by kernel_rfl) (by kernel_rfl) (by kernel_rfl) (Or.inl (by kernel_rfl)) (fun _ _ _ h => h) (Or.inl ⟨by rfl, fun w hSw => by go_simp⟩) hp0_0 ?_
      simp only [Act.put, List.setIfInBounds_toArray]
      dsimp only [List.set_cons_zero, List.set_cons_succ]
      refine wpZ_take (i := 8) (v := .int .i64 (r : Int)) 40 rfl rfl (by kernel_rfl) (by kernel_rfl) (by kernel_rfl) (Or.inl (by kernel_rfl)) (fun _ _ _ h => h) (Or.inl ⟨by rfl, fun w hSw => by go_simp⟩) hp0_0 ?_
      simp only [Act.put, List.setIfInBounds_toArray]
      dsimp only [List.set_cons_zero, List.set_cons_succ]
      refine wpZ_take (i := 10) (v := .slice on m cn) 42 rfl rfl (by kernel_rfl) (by kernel_rfl) (by kernel_rfl) (Or.inl (by kernel_rfl)) (fun _ _ _ h => h) (Or.inl ⟨by rfl, fun w hSw => by go_simp⟩) hp0_0 ?_
      simp only [Act.put, List.setIfInBounds_toArray]
      dsimp only [List.set_cons_zero, List.set_cons_succ]
      refine wpZ_take (i := 11) (v := .int .i64 (r : Int)) 43 rfl rfl (by kernel_rfl) (by kernel_rfl) (by kernel_rfl) (Or.inl (by kernel_rfl)) (fun _ _ _ h => h) (Or.inl ⟨by rfl, fun w hSw => by go_simp⟩) hp0_0 ?_
      simp only [Act.put, List.setIfInBounds_toArray]
      dsimp only [List.set_cons_zero, List.set_cons_succ]
      refine wpZ_one (i := 9) (by kernel_rfl) rfl (fun K hK => ?_)
      go_simp
      refine (HI1.out wD (bStep HBR.out hlow0)).mono ?_
      rintro e wT1 ⟨⟨A, rfl, lA, bA⟩, hbT1⟩
      have hlowT1 := bStep hlow0 hbT1
      clear lA
      go_wp2_with fail
      refine hK.out _ _ (fun _ => hlowT1) ?_
      clear hK K hbT1
      refine wpZ_one (i := 12) (by kernel_rfl) rfl (fun K hK => ?_)
      go_simp
      refine (HI2.out wT1 (bStep HBR.out hlowT1)).mono ?_
      rintro e wT2 ⟨⟨B, rfl, lB, bB⟩, hbT2⟩
      have hlowT2 := bStep hlowT1 hbT2
      have bA := bA.belowAll hbT2
      clear lB
      go_wp2_with fail
      refine hK.out _ _ (fun _ => hlowT2) ?_
      clear hK K hbT2
      refine wpZ_one (i := 13) (by kernel_rfl) rfl (fun K hK => ?_)
      go_simp
      refine (HC1.out A B wT2 (bStep HBR.out hlowT2) bA bB).mono ?_
      rintro e wT3 ⟨⟨G0, rfl, lG0, bG0⟩, hbT3⟩
      have hlowT3 := bStep hlowT2 hbT3
      have nG0 : G0 ≠ H := by have := bH.lt; have := hlowT2.size; omega
      have lG1 : w3.heap.size ≤ G0 := by have := hbr.size; have := hlowT2.size; omega
      clear bA bB lG0
      go_wp2_with fail
      refine hK.out _ _ (fun _ => hlowT3) ?_
      clear hK K hbT3
      refine wpZ_take (i := 14) (v := .pointer (some ⟨H, r, none⟩)) 46 rfl rfl (by kernel_rfl) (by kernel_rfl) (by kernel_rfl) (Or.inl (by kernel_rfl)) (fun _ _ _ h => h) (Or.inl ⟨by rfl, fun w hSw => by go_simp⟩) hlowT3 ?_
      simp only [Act.put, List.setIfInBounds_toArray]
      dsimp only [List.set_cons_zero, List.set_cons_succ]
      refine wpZ_one (i := 15) (by kernel_rfl) rfl (fun K hK => ?_)
      have bS := bH.belowAll hlowT3
      have fS := bS.frozen
      have cS := bS.cell r hlt
      rw [if_neg (Nat.lt_irrefl r)] at cS
      obtain ⟨w6, hw6, s7, hk6⟩ := bS.put hlt (.slice (some ⟨G0, 0, none⟩) m m)
      go_simp
      refine hK.out _ _ (fun h => absurd rfl h) ?_
      clear hK K
      refine wpZ_done (by kernel_rfl) ?_ _
      have hbw6 := bKept (bStep hbr hlowT3) HL3.out hk6
      have HGN : Hid (∀ i, i < r + 1 → CelK w6 (if i = r then G0 else G i) m (fun j => X j i) (fun j => mulP s (st j) (pt i)) (fun j => Y j i) ∧ (if i = r then G0 else G i) ≠ H ∧ w3.heap.size ≤ (if i = r then G0 else G i)) := fun i hi => by
        by_cases c : i = r
        · rw [if_pos c, c]
          refine ⟨?_, nG0, lG1⟩
          have h := bG0.kept nG0 hk6
          rw [HXY.out.1, HXY.out.2.1, HXY.out.2.2] at h
          exact h
        · rw [if_neg c]
          have h := HGS.out i (by omega)
          exact ⟨(h.1.belowAll hlowT3).kept h.2.1 hk6, h.2⟩
      have bH8 : SlT 122 w6 H u (fun i => if i < r + 1 then .slice (some ⟨if i = r then G0 else G i, 0, none⟩) m m else .slice none 0 0) := s7.congr (fun i hi => by
        by_cases c : i = r
        · simp only [if_pos c, if_pos (show i < r + 1 by omega)]
        · by_cases d : i < r
          · simp only [if_neg c, if_pos d, if_pos (show i < r + 1 by omega)]
          · simp only [if_neg c, if_neg d, if_neg (show ¬ i < r + 1 by omega)])
      clear bS fS cS hk6 s7 r4 bG0 bH hbr HXP HI1 HI2 HC1 hlowT3
      go_wp2
      go_roundw
      case measure => simp [intOf]; omega
      case rel => exact ⟨r + 1, fun i => if i = r then G0 else G i, by go_num, by omega, hbw6, bH8, HGN.out⟩
    · have hri : ¬ (r : Int) < (u : Int) := by omega
      obtain rfl : u = r := by omega
      have hbw : Below w.heap.size w wr := bStep HP3.out.2.2 hbr
      have hHw : w.heap.size ≤ H := Nat.le_trans HP3.out.2.2.size HL3.out
      have HRS : Hid (SlT 122 wr H u (fun i => .slice (some ⟨G i, 0, none⟩) m m)) := bH.congr (fun i hi => (if_pos hi).symm)
      clear bH hbr
      go_wp2
      refine bodyPost_ret (v := .tuple #[.slice (some ⟨H, 0, none⟩) u u, .int .i64 0]) (by simp [results, Tryz.results26, go_sem]) rfl ⟨⟨H, rfl, hHw, G, HRS.out, fun i hi => ⟨Nat.le_trans HP3.out.2.2.size (HGS.out i hi).2.2, (HGS.out i hi).1⟩⟩, hbw⟩
end Go.Proofs.YtfbfenljfdnggaaGreatDoor
