/- domain: its variables, points, scale. -/
import Derived.Test.YtfbfenljfdnggaaGreatDoorVL5
import Derived.Test.YtfbfenljfdnggaaGreatDoorVR1
import Derived.Test.YtfbfenljfdnggaaGreatDoorVDM
namespace Go.Proofs.YtfbfenljfdnggaaGreatDoor
open Go.RowKit
/-- The variables of field and domain read as the text lays them. -/
def GlobD (w : World) : Prop := Glob w ∧ ∀ i, i < 4 → w.cell? ⟨0, i, none⟩ = some (.int .u64 ((limb i 1 : Nat) : Int))
theorem Glob.belowM {w w' : World} {m : Nat} (h : Glob w) (hm : 3 ≤ m) (hb : Below m w w') : Glob w' := by
  obtain ⟨h1, h2, h3⟩ := h
  refine ⟨Nat.le_trans h1 hb.size, fun s hs => ⟨fun j hj => ?_, ?_⟩, fun i hi => ?_⟩
  · rw [hb.cell (p := ⟨1, 5 * s + j, none⟩) (show 1 < m by omega)]; exact (h2 s hs).1 j hj
  · rw [hb.cell (p := ⟨1, 5 * s + 4, none⟩) (show 1 < m by omega)]; exact (h2 s hs).2
  · rw [hb.cell (p := ⟨2, i, none⟩) (show 2 < m by omega)]; exact h3 i hi
theorem GlobD.belowM {w w' : World} {m : Nat} (h : GlobD w) (hm : 3 ≤ m) (hb : Below m w w') : GlobD w' :=
  ⟨h.1.belowM hm hb, fun i hi => by rw [hb.cell (p := ⟨0, i, none⟩) (show 0 < m by omega)]; exact h.2 i hi⟩
theorem GlobD.ge {w : World} (h : GlobD w) : 3 ≤ w.heap.size := h.1.1
theorem GlobD.below {w w' : World} (h : GlobD w) (hb : Below w.heap.size w w') : GlobD w' := h.belowM h.ge hb
theorem GlobD.kept {w w' : World} {g : Nat} (h : GlobD w) (hg : 3 ≤ g) (hk : Kept g w w') : GlobD w' := h.belowM (m := 3) (Nat.le_refl _) ⟨hk.os, hk.tape, hk.output, hk.size, fun k hl => hk.block k (by have := h.ge; omega) (by omega)⟩
theorem bKept {w x y : World} {g : Nat} (h : Below w.heap.size w x) (hg : w.heap.size ≤ g) (hk : Kept g x y) : Below w.heap.size w y :=
  ⟨hk.os.trans h.os, hk.tape.trans h.tape, hk.output.trans h.output, Nat.le_trans h.size hk.size, fun k hl => (hk.block k (Nat.lt_of_lt_of_le hl h.size) (by omega)).trans (h.block k hl)⟩
theorem BlkE.kept {w w' : World} {b n g : Nat} {f : Nat → Nat} (h : BlkE w b n f) (hne : b ≠ g) (hk : Kept g w w') : BlkE w' b n f := by
  obtain ⟨c, hc, hs⟩ := h
  exact ⟨c, by rw [hk.block b (BlkE.lt ⟨c, hc, hs⟩) hne]; exact hc, hs⟩
theorem Blk.kept {w w' : World} {t : TypeId} {b g : Nat} {f : Nat → Nat} (h : Blk w t b f) (hne : b ≠ g) (hk : Kept g w w') : Blk w' t b f := by
  have hl := h.lt
  unfold Blk at h ⊢
  rw [hk.block b hl hne]
  exact h
theorem Kept.ofBelow {w w' : World} (g : Nat) (h : Below w.heap.size w w') : Kept g w w' := ⟨h.os, h.tape, h.output, h.size, fun k hk _ => h.block k hk⟩
theorem Kept.own {b g : Nat} {w x y : World} (h : Kept b w x) (hg : w.heap.size ≤ g) (hk : Kept g x y) : Kept b w y :=
  ⟨hk.os.trans h.os, hk.tape.trans h.tape, hk.output.trans h.output, Nat.le_trans h.size hk.size, fun k hl hne => (hk.block k (Nat.lt_of_lt_of_le hl h.size) (by omega)).trans (h.block k hl hne)⟩
/-- An element is written into a list. -/
theorem BlkE.put {w : World} {b n k : Nat} {f : Nat → Nat} (h : BlkE w b n f) (hk : k < n) (x : Nat) : ∃ w', ((((w.setCell ⟨b, k * 4, none⟩ (.int .u64 ((limb 0 x : Nat) : Int))).setCell ⟨b, k * 4 + 1, none⟩ (.int .u64 ((limb 1 x : Nat) : Int))).setCell ⟨b, k * 4 + 2, none⟩ (.int .u64 ((limb 2 x : Nat) : Int))).setCell ⟨b, k * 4 + 3, none⟩ (.int .u64 ((limb 3 x : Nat) : Int))) = w' ∧ BlkE w' b n (fun i => if i = k then x else f i) ∧ Kept b w w' :=
  ⟨_, rfl, h.setE k hk x, ((((Kept.refl b w).setCell _ _).setCell _ _).setCell _ _).setCell _ _⟩
/-- A variable of one's own is written. -/
theorem Blk.put {w : World} {b x : Nat} (h : Blk w 25 b (fun i => limb i x)) (y : Nat) : ∃ w', ((((w.setCell ⟨b, 0, none⟩ (.int .u64 ((limb 0 y : Nat) : Int))).setCell ⟨b, 1, none⟩ (.int .u64 ((limb 1 y : Nat) : Int))).setCell ⟨b, 2, none⟩ (.int .u64 ((limb 2 y : Nat) : Int))).setCell ⟨b, 3, none⟩ (.int .u64 ((limb 3 y : Nat) : Int))) = w' ∧ Blk w' 25 b (fun i => limb i y) ∧ Kept b w w' :=
  ⟨_, rfl, h.set4 (fun i => limb i y), ((((Kept.refl b w).setCell _ _).setCell _ _).setCell _ _).setCell _ _⟩
theorem made_zero (n t : Nat) (ht : t < n * 4) : (madeCells #[.int .u64 0, .int .u64 0, .int .u64 0, .int .u64 0] (n * 4)).toList[t]? = some (.int .u64 0) := by
  rw [Array.getElem?_toList]
  unfold madeCells
  rw [Array.getElem?_map, Array.getElem?_range, if_pos ht]
  have h4 : t % 4 = 0 ∨ t % 4 = 1 ∨ t % 4 = 2 ∨ t % 4 = 3 := by omega
  show some _ = _
  dsimp only
  rcases h4 with h | h | h | h
  all_goals (rw [show (#[Value.int .u64 0, .int .u64 0, .int .u64 0, .int .u64 0] : Array Value).size = 4 from rfl, h]; rfl)
theorem powM_step (m a i : Nat) : powM m a i * a % m = powM m a (i + 1) := by
  unfold powM
  rw [Nat.mod_mul_mod, Nat.pow_succ]
theorem adicN_ge (s : Nat) : 9 ≤ adicN s := by
  match s with
  | 0 => decide
  | 1 => decide
  | _ + 2 => exact (by decide : 9 ≤ 32)
theorem lt_M (c a : Nat) (h : a < modN c) : a < 115792089237316195423570985008687907853269984665640564039457584007913129639936 := Nat.lt_trans h (modN_good c).lt.2.2
theorem mulP_M (c a b : Nat) : mulP c a b < 115792089237316195423570985008687907853269984665640564039457584007913129639936 := lt_M c _ (mulP_lt c a b)
theorem addP_M (c a b : Nat) : addP c a b < 115792089237316195423570985008687907853269984665640564039457584007913129639936 := lt_M c _ (addP_lt c a b)
theorem wrap_i64_nat (n : Nat) (h : n < 9223372036854775808) : IntKind.i64.wrap (n : Int) = (n : Int) := by
  have e : (n : Int) % 2 ^ 64 = n := Int.emod_eq_of_lt (by omega) (by omega)
  simp only [IntKind.wrap, IntKind.bits, IntKind.signed, e]
  rw [if_neg]
  simp
  omega
theorem pow9 {k : Nat} (hk : k ≤ 9) : 0 < 2 ^ k ∧ 2 ^ k ≤ 512 := ⟨Nat.two_pow_pos k, Nat.pow_le_pow_right (by decide) hk⟩
set_option maxHeartbeats 8000000 in
set_option maxRecDepth 20000 in
theorem dpoints_any (s k : Nat) (hs : s < 4) (hk : k ≤ 9) (w : World) (hg : GlobD w) :
    Calls Tryz.prog 92 #[.int .i64 (s : Int), .int .i64 (k : Int)] w fun e w' => (∃ g, e = .returned (.slice (some ⟨g, 0, none⟩) (2 ^ k) (2 ^ k)) ∧ w.heap.size ≤ g ∧ BlkE w' g (2 ^ k) (fun i => expP s (rootP s k) i)) ∧ Below w.heap.size w w' := by
  obtain ⟨i0, hi, hz0, hz1, hz2⟩ := elemInfo
  have HI := (show Hid _ from hi); have HZ := (show Hid _ from And.intro hz0 (And.intro hz1 hz2)); clear hi hz0 hz1 hz2
  have HGL : Hid (GlobD w) := hg
  have ha := adicN_ge s
  have HR := fun w hg => fRoot_any s k hs (Nat.le_trans hk ha) w hg
  obtain ⟨N, eN⟩ : ∃ N, N = 2 ^ k := ⟨_, rfl⟩
  have hN := pow9 hk
  rw [← eN] at hN ⊢
  have HSH : Hid (IntKind.i64.wrap (2 ^ k) = (N : Int)) := by
    have : (2 : Int) ^ k = (N : Int) := by rw [eN]; simp
    rw [this]
    exact wrap_i64_nat N (by omega)
  have HM : Hid (∀ a b w, a < 115792089237316195423570985008687907853269984665640564039457584007913129639936 → b < 115792089237316195423570985008687907853269984665640564039457584007913129639936 → Glob w → Calls Tryz.prog 87 #[.int .i64 (s : Int), .agg #[.int .u64 ((limb 0 (a) : Nat) : Int), .int .u64 ((limb 1 (a) : Nat) : Int), .int .u64 ((limb 2 (a) : Nat) : Int), .int .u64 ((limb 3 (a) : Nat) : Int)], .agg #[.int .u64 ((limb 0 (b) : Nat) : Int), .int .u64 ((limb 1 (b) : Nat) : Int), .int .u64 ((limb 2 (b) : Nat) : Int), .int .u64 ((limb 3 (b) : Nat) : Int)]] w fun e w' => e = .returned (.agg #[.int .u64 ((limb 0 (mulP s a b) : Nat) : Int), .int .u64 ((limb 1 (mulP s a b) : Nat) : Int), .int .u64 ((limb 2 (mulP s a b) : Nat) : Int), .int .u64 ((limb 3 (mulP s a b) : Nat) : Int)]) ∧ Below w.heap.size w w') := fun a b w ha hb hg => fMul_any s a b hs ha hb w hg
  have hk63 : ¬ (k : Int) < 0 := by omega
  obtain ⟨R, eR⟩ : ∃ R, R = rootP s k := ⟨_, rfl⟩
  rw [← eR] at HR ⊢
  have HRM : Hid (R < 115792089237316195423570985008687907853269984665640564039457584007913129639936) := by rw [eR]; exact lt_M s _ (rootP_lt s k)
  have HEM : Hid (∀ i, expP s R i < 115792089237316195423570985008687907853269984665640564039457584007913129639936) := fun i => lt_M s _ (expP_lt s R i)
  have HP0 : Hid (expP s R 0 = 1) := by unfold expP powM; rw [Nat.pow_zero, Nat.mod_eq_of_lt (modN_odd s).2]; exact rfl
  have HPS : Hid (∀ i, mulP s (expP s R i) R = expP s R (i + 1)) := fun i => powM_step _ _ _
  clear eR eN hg ha
  go_enter Tryz.func92, Tryz.ntmps92
  go_wp2_with fail
  refine (HR _ HGL.out.1).mono ?_
  rintro e w1 ⟨rfl, hb1⟩
  obtain ⟨N5, e5⟩ : ∃ n, n = w1.heap.size := ⟨_, rfl⟩
  obtain ⟨w2, hw2⟩ : ∃ z : World, z = w1.alloc (.cells #[.int .u64 ((limb 0 (R) : Nat) : Int), .int .u64 ((limb 1 (R) : Nat) : Int), .int .u64 ((limb 2 (R) : Nat) : Int), .int .u64 ((limb 3 (R) : Nat) : Int)] 25) := ⟨_, rfl⟩
  have br2 : Blk w2 25 N5 (fun i => limb i R) := by rw [hw2]; exact Blk.newAt _ _ _ (fun i => limb i R) e5
  have hbw2 : Below w.heap.size w w2 := by rw [hw2]; exact bAlloc hb1 _
  have l5 : w.heap.size ≤ N5 := by rw [e5]; exact hb1.size
  go_upto_region 2 with fail
  rw [← hw2, ← e5]
  clear hw2 e5 hb1 HR
  have lw2 := hbw2.size
  have hsh := HSH.out
  go_wp2_with (first
    | (at_make; refine wpList_make_full _ rfl _ _ 26 rfl w2.heap.size 25 i0 (.agg #[.int .u64 0, .int .u64 0, .int .u64 0, .int .u64 0]) 4 Tryz.underlying26 HI.out HZ.out.1 HZ.out.2.1 .i64 .i64 N N N rfl rfl rfl rfl ?c1 ?c2 (Nat.le_refl _) ?_)
    | go_in)
  case c1 => rw [HZ.out.2.2]; omega
  case c2 => unfold maxLen; omega
  intro w3 hown hgrow
  obtain ⟨G, eG⟩ : ∃ G, G = w2.heap.size := ⟨_, rfl⟩
  rw [← eG] at hown ⊢
  have bo3 : BlkE w3 G N (fun _ => 0) := (own_blkE (f := fun _ => 0) hown (fun i hi j hj => by rw [made_zero N (i * 4 + j) (by omega), limb_zero]; rfl)).1
  have hbe : Below w2.heap.size w2 w3 := (Below.refl _ w2).grown hgrow (Nat.le_refl _) (fun j hj => by cases hj)
  have br3 := br2.belowAll hbe
  have hbw3 := bStep hbw2 hbe
  have lG5 : N5 < G := by rw [eG]; exact br2.lt
  have lGw : w.heap.size ≤ G := by omega
  clear hown hgrow hbe br2 hbw2 eG lw2 hsh
  have cg := (HGL.out.below hbw3).2
  obtain ⟨N8, e8⟩ : ∃ n, n = w3.heap.size := ⟨_, rfl⟩
  obtain ⟨w4, hw4⟩ : ∃ z : World, z = w3.alloc (.cells #[.int .u64 ((limb 0 (1) : Nat) : Int), .int .u64 ((limb 1 (1) : Nat) : Int), .int .u64 ((limb 2 (1) : Nat) : Int), .int .u64 ((limb 3 (1) : Nat) : Int)] 25) := ⟨_, rfl⟩
  have br4 : Blk w4 25 N5 (fun i => limb i R) := by rw [hw4]; exact br3.alloc _
  have bo4 : BlkE w4 G N (fun _ => 0) := by rw [hw4]; exact bo3.alloc _
  have ba4 : Blk w4 25 N8 (fun i => limb i 1) := by rw [hw4]; exact Blk.newAt _ _ _ (fun i => limb i 1) e8
  have hbw4 : Below w.heap.size w w4 := by rw [hw4]; exact bAlloc hbw3 _
  have l8 : G < N8 := by rw [e8]; exact bo3.lt
  go_upto_region 4 with fail
  rw [← hw4, ← e8]
  clear hw4 e8 br3 bo3 hbw3 cg
  go_wp2
  go_loopw [22] (fun iv wr => ∃ j : Nat, iv = .int .i64 (j : Int) ∧ j ≤ N ∧ Below w.heap.size w wr ∧ Blk wr 25 N5 (fun i => limb i R) ∧ BlkE wr G N (fun i => if i < j then expP s R i else 0) ∧ Blk wr 25 N8 (fun i => limb i (expP s R j))) (fun iv _ => N - (intOf iv).toNat)
  case atStart => exact ⟨0, rfl, Nat.zero_le _, hbw4, br4, bo4.congr (fun i _ => by rw [if_neg (by omega)]), by rw [HP0.out]; exact ba4⟩
  case round =>
    obtain ⟨j, rfl, hj, hbr, br, bo, ba⟩ := hrel
    clear br4 bo4 ba4 hbw4
    by_cases hlt : j < N
    · have hji : (j : Int) < (N : Int) := by omega
      obtain ⟨p, ep⟩ : ∃ p, p = expP s R j := ⟨_, rfl⟩
      rw [← ep] at ba
      have HEP : Hid (p = expP s R j) := ep
      clear ep
      have ca := ba.cell
      have o0 := bo.cell j hlt 0 (by decide); have o1 := bo.cell j hlt 1 (by decide); have o2 := bo.cell j hlt 2 (by decide); have o3 := bo.cell j hlt 3 (by decide)
      have fo := bo.frozen
      rw [Nat.add_zero] at o0
      obtain ⟨w5, hw5, bo5, hk5⟩ := bo.put hlt p
      have br5 := br.kept (by omega) hk5
      have ba5 := ba.kept (by omega) hk5
      have hbw5 : Below w.heap.size w w5 := bKept hbr lGw hk5
      go_upto_region 8 with fail
      clear hw5 hk5 bo ba br hbr ca o0 o1 o2 o3 fo
      have ca := ba5.cell; have cr := br5.cell
      have MM := HM.out p R w5 (by rw [HEP.out]; exact HEM.out j) HRM.out (HGL.out.below hbw5).1
      rw [show mulP s p R = expP s R (j + 1) by rw [HEP.out]; exact HPS.out j] at MM
      obtain ⟨p1, ep1⟩ : ∃ z, z = expP s R (j + 1) := ⟨_, rfl⟩
      rw [← ep1] at MM
      have HEP1 : Hid (p1 = expP s R (j + 1)) := ep1
      clear ep1
      go_wp2_with fail
      refine MM.mono ?_
      rintro e w6 ⟨rfl, hb6⟩
      have ba6 := ba5.belowAll hb6
      have br6 := br5.belowAll hb6
      have bo6 := bo5.belowAll hb6
      have hbw6 := bStep hbw5 hb6
      clear ba5 br5 bo5 hbw5 hb6 ca cr MM
      have ca := ba6.cell; have fa := ba6.frozen
      obtain ⟨w7, hw7, ba7, hk7⟩ := ba6.put p1
      have br7 := br6.kept (by omega) hk7
      have bo7 := bo6.kept (by omega) hk7
      have hbw7 : Below w.heap.size w w7 := bKept hbw6 (by omega) hk7
      have bo8 : BlkE w7 G N (fun i => if i < j + 1 then expP s R i else 0) := bo7.congr (fun i _ => by
        by_cases e : i = j
        · subst e; rw [if_pos (by omega), if_pos rfl, HEP.out]
        · rw [if_neg e]
          by_cases h2 : i < j
          · rw [if_pos (by omega), if_pos h2]
          · rw [if_neg (by omega), if_neg h2])
      rw [HEP1.out] at ba7
      clear br6 bo6 hbw6 bo7 hk7
      go_wp2
      go_roundw
      case measure => simp [intOf]; omega
      case rel => exact ⟨j + 1, by go_num, by omega, hbw7, br7, bo8, ba7⟩
    · have hji : ¬ (j : Int) < (N : Int) := by omega
      have ej : j = N := by omega
      clear ba
      go_wp2
      go_ret
      refine ⟨⟨G, rfl, lGw, bo.congr (fun i hi => by rw [if_pos (by omega)])⟩, hbr⟩
end Go.Proofs.YtfbfenljfdnggaaGreatDoor
