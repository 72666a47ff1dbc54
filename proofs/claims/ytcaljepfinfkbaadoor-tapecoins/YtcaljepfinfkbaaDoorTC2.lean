/- TapeCoins: the walk. -/
import Derived.Test.YtcaljepfinfkbaaDoorTC1
import Derived.Test.YtcaljepfinfkbaaDoorK3
namespace Go.Proofs.YtcaljepfinfkbaaDoor
open Go.RowKit

/-- Block G has room for n elements. -/
def Room (w : World) (G n : Nat) : Prop := ∃ cur : Array Value, w.heap[G]? = some (.cells cur 29) ∧ n * 4 ≤ cur.size
theorem Room.cells {w : World} {G n k : Nat} (h : Room w G n) (hk : k < n) : ∃ v0 v1 v2 v3, w.cell? ⟨G, k * 4, none⟩ = some v0 ∧ w.cell? ⟨G, k * 4 + 1, none⟩ = some v1 ∧ w.cell? ⟨G, k * 4 + 2, none⟩ = some v2 ∧ w.cell? ⟨G, k * 4 + 3, none⟩ = some v3 ∧ ∀ o, w.frozen? ⟨G, o, none⟩ = false := by
  obtain ⟨cur, h, hs⟩ := h
  have g : ∀ i, i < cur.size → ∃ v, w.cell? ⟨G, i, none⟩ = some v := fun i hi => ⟨cur[i], by simp [World.cell?, h, hi]⟩
  obtain ⟨v0, q0⟩ := g (k * 4) (by omega)
  obtain ⟨v1, q1⟩ := g (k * 4 + 1) (by omega)
  obtain ⟨v2, q2⟩ := g (k * 4 + 2) (by omega)
  obtain ⟨v3, q3⟩ := g (k * 4 + 3) (by omega)
  exact ⟨v0, v1, v2, v3, q0, q1, q2, q3, fun o => by simp [World.frozen?, h]⟩
theorem Room.set {w : World} {G n : Nat} (h : Room w G n) (o : Nat) (u : Value) : Room (w.setCell ⟨G, o, none⟩ u) G n := by
  obtain ⟨cur, h, hs⟩ := h
  exact ⟨cur.setIfInBounds o u, by simp [World.setCell, Array.getElem?_modify, h], by simpa using hs⟩
theorem Room.put {w : World} {G n : Nat} (h : Room w G n) (k : Nat) (u0 u1 u2 u3 : Value) : ∃ w', (((w.setCell ⟨G, k * 4, none⟩ (u0)).setCell ⟨G, k * 4 + 1, none⟩ (u1)).setCell ⟨G, k * 4 + 2, none⟩ (u2)).setCell ⟨G, k * 4 + 3, none⟩ (u3) = w' ∧ Room w' G n ∧ Kept G w w' :=
  ⟨_, rfl, (((h.set _ _).set _ _).set _ _).set _ _, ((((Kept.refl G w).setCell _ _).setCell _ _).setCell _ _).setCell _ _⟩
theorem own_Room2 {w : World} {base n : Nat} {v : Value} {f : Nat → Nat} (h : w.ownsRow base 29 4 v n (els f n)) (hw : 0 < w.heap.size) : ∃ (G : Nat) (oo : Option Addr) (co : Nat), v = .slice oo n co ∧ G < w.heap.size ∧ (0 < n → oo = some ⟨G, 0, none⟩ ∧ base ≤ G ∧ Room w G n) := by
  obtain ⟨_, h⟩ := h
  rcases h with ⟨rfl, h0⟩ | ⟨g, c, cur, rfl, hbg, hg, hc, hm, hs, _⟩
  · subst h0
    exact ⟨0, none, 0, rfl, hw, fun h => absurd h (Nat.lt_irrefl _)⟩
  · exact ⟨g, _, c, rfl, (Array.getElem?_eq_some_iff.1 hg).1, fun _ => ⟨rfl, hbg, cur, hg, by rw [hs]; exact Nat.mul_le_mul_right 4 hc⟩⟩
theorem One1.keptG {w w' : World} {t : TypeId} {b g : Nat} {v : Value} (h : One1 w t b v) (hne : b ≠ g) (hk : Kept g w w') : One1 w' t b v := h.kept hne hk
set_option maxHeartbeats 8000000 in
set_option maxRecDepth 40000 in
theorem coins_gen (n cn : Nat) (oa : Option Addr) (f : Nat → Nat) (hn : n ≤ 4398046510976) (hf : ∀ i, i < n → f i < 115792089237316195423570985008687907853269984665640564039457584007913129639936) (w : World) (hg : GlobC w) (HAL0 : ∀ w, GlobC w → Calls Tryd.prog 4 #[] w fun e w' => e = .returned (.bool true) ∧ Below w.heap.size w w') (hv : Es w (.slice oa n cn) n f) :
    Calls Tryd.prog 3 #[.slice oa n cn] w fun e w' => e = .returned (.bool true) ∧ Below w.heap.size w w' := by
  have HG : Hid (GlobC w) := hg
  have HAL := (show Hid _ from HAL0)
  have HV : Hid (Es w (.slice oa n cn) n f) := hv
  have HFM : Hid (∀ i, i < n → f i < 115792089237316195423570985008687907853269984665640564039457584007913129639936) := hf
  have HN : Hid (n ≤ 4398046510976) := hn
  have EQZ : ∀ w, (binOp .eql 29 (.agg #[.int .u64 0, .int .u64 0, .int .u64 0, .int .u64 0]) (.agg #[.int .u64 0, .int .u64 0, .int .u64 0, .int .u64 0])).run Tryd.prog w = .ok (.bool true) w := fun w => by
    have h := eqlE 0 0 (by decide) (by decide) w
    rw [decide_eq_true rfl, limb_zero, limb_zero, limb_zero, limb_zero] at h
    exact h
  have hnb : n ≤ 4398046510976 := hn
  have hsz := hg.1.1
  clear hg HAL0 hv hf
  go_enter Tryd.func3, Tryd.ntmps3
  go_wp2_with fail
  refine (HAL.out w HG.out).mono ?_
  rintro e w1 ⟨rfl, hb1⟩
  go_wp2_with fail
  refine (copyB_any n _ f HN.out w1 (HV.out.below hb1)).mono ?_
  rintro e w2 ⟨v, rfl, ho, hb2⟩
  have HE2 : Hid (Es w2 v n f) := own_Es ho
  have l1 := hb1.size
  have l2 := hb2.size
  obtain ⟨G, oo, co, rfl, lG, hR⟩ := own_Room2 ho (by omega)
  have hbw2 := bStep hb1 hb2
  clear ho hb1 hb2
  go_wp2_with fail
  refine (purse_any n _ f HN.out w2 HE2.out).mono ?_
  rintro e w3 ⟨⟨bC, n', c2, o2, rfl, lB, rfl, h3, hE3, HF⟩, hb3⟩
  have hbw3 := bStep hbw2 hb3
  have EQN : ∀ w, (binOp .eql 25 (.pointer (some ⟨bC, 0, none⟩)) (.pointer none)).run Tryd.prog w = .ok (.bool false) w := fun w => by kernel_rfl
  have HR : Hid (0 < n' → oo = some ⟨G, 0, none⟩ ∧ w1.heap.size ≤ G ∧ Room w3 G n') := fun h => by
    obtain ⟨h1, h2, cur, h4, h5⟩ := hR h
    exact ⟨h1, h2, cur, by rw [hb3.block G lG]; exact h4, h5⟩
  have nGB : bC ≠ G := by omega
  have HL1 : Hid (w.heap.size ≤ w1.heap.size) := l1
  have hwB : w.heap.size ≤ bC := by have := hbw2.size; omega
  have H3 : Hid (One1 w3 49 bC (.slice o2 n' c2)) := h3
  have HE3 : Hid (Es w3 (.slice o2 n' c2) n' f) := hE3
  have HNG : Hid (∀ g o, o2 = some ⟨g, o, none⟩ → g ≠ G ∧ g ≠ bC) := fun g o e => by have := HF.out g o e; exact ⟨by omega, this.2⟩
  clear hR hbw2 hb3 HE2 h3 hE3 HF l1 l2 lG
  go_wp2
  go_loopw [5] (fun iv wr => ∃ k : Nat, iv = .int .i64 (k : Int) ∧ k ≤ n' ∧ Below w.heap.size w wr ∧ Kept G w3 wr ∧ Hid (0 < n' → oo = some ⟨G, 0, none⟩ ∧ w1.heap.size ≤ G ∧ Room wr G n')) (fun iv _ => n' - (intOf iv).toNat)
  case atStart => exact ⟨0, rfl, Nat.zero_le _, hbw3, Kept.refl _ _, HR.out⟩
  case round =>
    obtain ⟨k, rfl, hk, hbr, hkr, HRr⟩ := hrel
    clear hbw3 HR
    by_cases hlt : k < n'
    · have hki : (k : Int) < (n' : Int) := by omega
      have hk0 : (0 : Int) ≤ (k : Int) := by omega
      obtain ⟨h1, h2, hRm⟩ := HRr.out (by omega)
      have hwG : w.heap.size ≤ G := Nat.le_trans HL1.out h2
      have HG2 : Hid (w1.heap.size ≤ G) := h2
      rw [h1]

      clear h1 h2 HRr
      obtain ⟨v0, v1, v2, v3, q0, q1, q2, q3, qf⟩ := hRm.cells hlt
      obtain ⟨w5, hw5, hR5, hk5⟩ := hRm.put k (.int .u64 9) (.int .u64 9) (.int .u64 0) (.int .u64 0)
      have hbr5 := bKept hbr hwG hk5
      have hkr5 := hkr.trans hk5
      clear hRm hk5 hbr hkr
      go_wp2
      go_roundw
      case measure => simp [intOf]; omega
      case rel => exact ⟨k + 1, by go_num, by omega, hbr5, hkr5, fun _ => ⟨trivial, HG2.out, hR5⟩⟩
    · have hni : ¬ (k : Int) < (n' : Int) := by omega
      have h4 := H3.out.keptG nGB hkr
      have hE4 : Es wr (.slice o2 n' c2) n' f := HE3.out.kept (fun g o m c e => by cases e; exact (HNG.out g o rfl).1) hkr
      clear HRr hkr
      go_wp2
      go_loopw [6] (fun iv wr => ∃ (k : Nat) (o : Option Addr) (c : Nat), iv = .int .i64 (k : Int) ∧ k ≤ n' ∧ Below w.heap.size w wr ∧ One1 wr 49 bC (.slice o (n' - k) c) ∧ Es wr (.slice o (n' - k) c) (n' - k) (fun i => f (i + k)) ∧ Hid (∀ g o', o = some ⟨g, o', none⟩ → g ≠ bC)) (fun iv _ => n' - (intOf iv).toNat)
      case atStart => exact ⟨0, o2, c2, rfl, Nat.zero_le _, hbr, h4, hE4, fun g o e => (HNG.out g o e).2⟩
      case round =>
        obtain ⟨k, o, c, rfl, hk, hbr, hO, hE, HNB0⟩ := hrel
        clear h4 hE4
        by_cases hlt : k < n'
        · have hki : (k : Int) < (n' : Int) := by omega
          have hk0 : (0 : Int) ≤ (k : Int) := by omega
          rcases HV.out with ⟨_, h0⟩ | ⟨ab, ao, c', hv, _, _, lab, hcell⟩
          · omega
          cases hv
          have HXM : Hid (f k < 115792089237316195423570985008687907853269984665640564039457584007913129639936) := HFM.out k hlt
          have HCA : Hid (∀ w', Below w.heap.size w w' → ∀ j, j < 4 → w'.cell? ⟨ab, ao + k * 4 + j, none⟩ = some (.int .u64 ((limb j (f k) : Nat) : Int))) := fun w' hb j hj => (hb.cell (p := ⟨ab, ao + k * 4 + j, none⟩) lab).trans (hcell k hlt j hj)
          clear hcell
          have HWB : Hid (w.heap.size ≤ bC) := hwB
          go_wp2_with fail
          refine (next_some bC (n' - k) c o (fun i => f (i + k)) (by omega) wr hO hE HNB0.out).mono ?_
          rintro e w4 ⟨⟨rfl, o5, h4, hE4, hap⟩, hk4⟩
          have hbr4 := bKept hbr HWB.out hk4
          clear hO hE hk4 hbr HNB0
          have e1 : f (0 + k) = f k := by rw [Nat.zero_add]
          rw [e1]
          clear e1
          obtain ⟨x, ex⟩ : ∃ x, x = f k := ⟨_, rfl⟩
          rw [← ex] at HXM HCA ⊢
          clear ex
          have hbe : Below w4.heap.size w4 (w4.alloc (.cells #[.int .u64 ((limb 0 (x) : Nat) : Int), .int .u64 ((limb 1 (x) : Nat) : Int), .int .u64 ((limb 2 (x) : Nat) : Int), .int .u64 ((limb 3 (x) : Nat) : Int)] 29)) := bAlloc (Below.refl _ _) _
          go_upto_region 15 with fail
          obtain ⟨N7, e7⟩ : ∃ N, N = w4.heap.size := ⟨_, rfl⟩
          obtain ⟨w5, hw5⟩ : ∃ z : World, z = w4.alloc (.cells #[.int .u64 ((limb 0 (x) : Nat) : Int), .int .u64 ((limb 1 (x) : Nat) : Int), .int .u64 ((limb 2 (x) : Nat) : Int), .int .u64 ((limb 3 (x) : Nat) : Int)] 29) := ⟨_, rfl⟩
          have b75 : Blk w5 29 N7 (fun i => limb i x) := by rw [hw5, e7]; exact Blk.newAt _ _ _ (fun i => limb i x) rfl
          rw [← hw5] at hbe
          rw [← hw5, ← e7]
          clear hw5 e7
          have hbr5 := bStep hbr4 hbe
          obtain ⟨c5, ec5⟩ : ∃ z, z = c - 1 := ⟨_, rfl⟩
          have h5 : One1 w5 49 bC (.slice o5 (n' - (k + 1)) c5) := by
            rw [ec5, show n' - (k + 1) = n' - k - 1 by omega]; exact h4.belowAll hbe
          have hE5 : Es w5 (.slice o5 (n' - (k + 1)) c5) (n' - (k + 1)) (fun i => f (i + (k + 1))) := by
            rw [ec5, show n' - (k + 1) = n' - k - 1 by omega]
            have e : (fun i => f (i + (k + 1))) = (fun i => f (i + 1 + k)) := funext fun i => by rw [show i + (k + 1) = i + 1 + k by omega]
            rw [e]
            exact hE4.below hbe
          have HNB : Hid (∀ g o', o5 = some ⟨g, o', none⟩ → g ≠ bC) := fun g o' e => (hap g o' e).1
          have HCX : Hid (∀ w', Below w5.heap.size w5 w' → w'.cell? ⟨ab, ao + k * 4, none⟩ = some (.int .u64 ((limb 0 x : Nat) : Int)) ∧ w'.cell? ⟨ab, ao + k * 4 + 1, none⟩ = some (.int .u64 ((limb 1 x : Nat) : Int)) ∧ w'.cell? ⟨ab, ao + k * 4 + 2, none⟩ = some (.int .u64 ((limb 2 x : Nat) : Int)) ∧ w'.cell? ⟨ab, ao + k * 4 + 3, none⟩ = some (.int .u64 ((limb 3 x : Nat) : Int))) := fun w' hb => by
            have q := HCA.out w' (hbr5.trans (hb.mono hbr5.size))
            have q0 := q 0 (by decide)
            rw [Nat.add_zero] at q0
            exact ⟨q0, q 1 (by decide), q 2 (by decide), q 3 (by decide)⟩
          have HNQ : Hid (∀ w, (binOp .neq 29 (.agg #[.int .u64 ((limb 0 (x) : Nat) : Int), .int .u64 ((limb 1 (x) : Nat) : Int), .int .u64 ((limb 2 (x) : Nat) : Int), .int .u64 ((limb 3 (x) : Nat) : Int)]) (.agg #[.int .u64 ((limb 0 (x) : Nat) : Int), .int .u64 ((limb 1 (x) : Nat) : Int), .int .u64 ((limb 2 (x) : Nat) : Int), .int .u64 ((limb 3 (x) : Nat) : Int)])).run Tryd.prog w = .ok (.bool false) w) := fun w => by have h := neqE x x HXM.out HXM.out w; rw [decide_eq_true rfl] at h; exact h
          clear h4 hE4 hap hbr4 hbe ec5 HCA HXM
          refine wp_region_Z (fun w' => Below w5.heap.size w5 w') 99 (by kernel_rfl) ?_
          obtain ⟨wD, hD⟩ : ∃ x : World, x = w5.drew := ⟨_, rfl⟩
          rw [← hD]
          have hp0_0 : Below w5.heap.size w5 wD := by rw [hD]; exact (Below.refl _ _).drew
          have hlow0 : Below w5.heap.size w5 wD := by rw [hD]; exact (Below.refl _ _).drew
          clear hD
          refine wpZ_take (i := 0) (v := .agg #[.int .u64 ((limb 0 (x) : Nat) : Int), .int .u64 ((limb 1 (x) : Nat) : Int), .int .u64 ((limb 2 (x) : Nat) : Int), .int .u64 ((limb 3 (x) : Nat) : Int)]) 42 rfl rfl (by kernel_rfl) (by kernel_rfl) (by kernel_rfl) (Or.inr (by decide)) (fun _ _ _ h => h) (Or.inl ⟨by rfl, fun w hSw => by (have qq := (b75.belowAll hSw).cell; clear hSw; go_simp)⟩) hp0_0 ?_
          simp only [Act.put, List.setIfInBounds_toArray]
          dsimp only [List.set_cons_zero, List.set_cons_succ]
          refine wpZ_take (i := 1) (v := .slice (some ⟨ab, ao, none⟩) n' cn) 43 rfl rfl (by kernel_rfl) (by kernel_rfl) (by kernel_rfl) (Or.inr (by decide)) (fun _ _ _ h => h) (Or.inl ⟨by rfl, fun w hSw => by go_simp⟩) hp0_0 ?_
          simp only [Act.put, List.setIfInBounds_toArray]
          dsimp only [List.set_cons_zero, List.set_cons_succ]
          refine wpZ_take (i := 2) (v := .int .i64 (k : Int)) 44 rfl rfl (by kernel_rfl) (by kernel_rfl) (by kernel_rfl) (Or.inr (by decide)) (fun _ _ _ h => h) (Or.inl ⟨by rfl, fun w hSw => by go_simp⟩) hp0_0 ?_
          simp only [Act.put, List.setIfInBounds_toArray]
          dsimp only [List.set_cons_zero, List.set_cons_succ]
          refine wpZ_take (i := 3) (v := .pointer (some ⟨ab, (ao + k * 4), none⟩)) 45 rfl rfl (by kernel_rfl) (by kernel_rfl) (by kernel_rfl) (Or.inr (by decide)) (fun _ _ _ h => h) (Or.inl ⟨by rfl, fun w hSw => by go_simp⟩) hp0_0 ?_
          simp only [Act.put, List.setIfInBounds_toArray]
          dsimp only [List.set_cons_zero, List.set_cons_succ]
          refine wpZ_take (i := 4) (v := .agg #[.int .u64 ((limb 0 (x) : Nat) : Int), .int .u64 ((limb 1 (x) : Nat) : Int), .int .u64 ((limb 2 (x) : Nat) : Int), .int .u64 ((limb 3 (x) : Nat) : Int)]) 46 rfl rfl (by kernel_rfl) (by kernel_rfl) (by kernel_rfl) (Or.inr (by decide)) (fun _ _ _ h => h) (Or.inl ⟨by rfl, fun w hSw => by (obtain ⟨q0, q1, q2, q3⟩ := HCX.out w hSw; clear hSw; go_simp)⟩) hp0_0 ?_
          simp only [Act.put, List.setIfInBounds_toArray]
          dsimp only [List.set_cons_zero, List.set_cons_succ]
          refine wpZ_take (i := 5) (v := .bool false) 47 rfl rfl (by kernel_rfl) (by kernel_rfl) (by kernel_rfl) (Or.inr (by decide)) (fun _ _ _ h => h) (Or.inl ⟨by rfl, fun w hSw => by (have qq := HNQ.out; clear hSw; go_simp)⟩) hp0_0 ?_
          simp only [Act.put, List.setIfInBounds_toArray]
          dsimp only [List.set_cons_zero, List.set_cons_succ]
          refine wpZ_take (i := 6) (v := .bool false) 48 rfl rfl (by kernel_rfl) (by kernel_rfl) (by kernel_rfl) (Or.inr (by decide)) (fun _ _ _ h => h) (Or.inl ⟨by rfl, fun w hSw => by go_simp⟩) hp0_0 ?_
          simp only [Act.put, List.setIfInBounds_toArray]
          dsimp only [List.set_cons_zero, List.set_cons_succ]
          refine wpZ_take (i := 7) (v := .int .i64 0) 49 rfl rfl (by kernel_rfl) (by kernel_rfl) (by kernel_rfl) (Or.inr (by decide)) (fun _ _ _ h => h) (Or.inl ⟨by rfl, fun w hSw => by go_simp⟩) hp0_0 ?_
          simp only [Act.put, List.setIfInBounds_toArray]
          dsimp only [List.set_cons_zero, List.set_cons_succ]
          refine wpZ_take (i := 8) (v := .bool false) 50 rfl rfl (by kernel_rfl) (by kernel_rfl) (by kernel_rfl) (Or.inr (by decide)) (fun _ _ _ h => h) (Or.inl ⟨by rfl, fun w hSw => by go_simp⟩) hp0_0 ?_
          simp only [Act.put, List.setIfInBounds_toArray]
          dsimp only [List.set_cons_zero, List.set_cons_succ]
          refine wpZ_take (i := 9) (v := .bool false) 51 rfl rfl (by kernel_rfl) (by kernel_rfl) (by kernel_rfl) (Or.inr (by decide)) (fun _ _ _ h => h) (Or.inl ⟨by rfl, fun w hSw => by go_simp⟩) hp0_0 ?_
          simp only [Act.put, List.setIfInBounds_toArray]
          dsimp only [List.set_cons_zero, List.set_cons_succ]
          refine wpZ_done (by kernel_rfl) ?_ _
          have hbr6 := bStep hbr5 hlow0
          have h6 := h5.belowAll hlow0
          have hE6 := hE5.below hlow0
          clear hbr5 h5 hE5 b75 HCX HNQ hlow0
          go_wp2
          go_roundw
          case measure => simp [intOf]; omega
          case rel => exact ⟨k + 1, o5, c5, by go_num, by omega, hbr6, h6, hE6, HNB.out⟩
        · have hni2 : ¬ (k : Int) < (n' : Int) := by omega
          have ek : n' - k = 0 := by omega
          rw [ek] at hO
          clear hE HNB0 ek
          go_wp2_with fail
          refine (next_none bC c o wr hO).mono ?_
          rintro e w4 ⟨rfl, hb4⟩
          have hbe : Below w4.heap.size w4 (w4.alloc (.cells #[.int .u64 0, .int .u64 0, .int .u64 0, .int .u64 0] 29)) := bAlloc (Below.refl _ _) _
          go_upto_region 18 with fail
          obtain ⟨N9, e9⟩ : ∃ N, N = w4.heap.size := ⟨_, rfl⟩
          obtain ⟨w5, hw5⟩ : ∃ z : World, z = w4.alloc (.cells #[.int .u64 0, .int .u64 0, .int .u64 0, .int .u64 0] 29) := ⟨_, rfl⟩
          have b95 : Blk w5 29 N9 (fun _ => 0) := by rw [hw5, e9]; exact Blk.newAt _ _ _ (fun _ => 0) rfl
          rw [← hw5] at hbe
          rw [← hw5, ← e9]
          clear hw5 e9
          have hO5 := (hO.belowAll hb4).belowAll hbe
          have hbr5 := bStep (bStep hbr hb4) hbe
          clear hO hb4 hbe hbr
          go_wp2_with fail
          refine (next_none bC c o w5 hO5).mono ?_
          rintro e w6 ⟨rfl, hb6⟩
          have b96 := b95.belowAll hb6
          have hbr6 := bStep hbr5 hb6
          clear hO5 hb6 b95 hbr5
          have b97 := b96.alloc (.cells #[.int .u64 0, .int .u64 0, .int .u64 0, .int .u64 0] 29)
          have hbr7 := bAlloc hbr6 (.cells #[.int .u64 0, .int .u64 0, .int .u64 0, .int .u64 0] 29)
          have c9 := b97.cell
          go_wp2
          go_ret
          exact ⟨rfl, hbr7⟩
theorem coins_walk (n : Nat) (v : Value) (f : Nat → Nat) (hn : n ≤ 4398046510976) (hf : ∀ i, i < n → f i < 115792089237316195423570985008687907853269984665640564039457584007913129639936) (w : World) (hg : GlobC w) (HAL : ∀ w, GlobC w → Calls Tryd.prog 4 #[] w fun e w' => e = .returned (.bool true) ∧ Below w.heap.size w w') (hv : Es w v n f) :
    Calls Tryd.prog 3 #[v] w fun e w' => e = .returned (.bool true) ∧ Below w.heap.size w w' := by
  obtain ⟨oa, cn, rfl⟩ := hv.shape
  exact coins_gen n cn oa f hn hf w hg HAL hv

end Go.Proofs.YtcaljepfinfkbaaDoor
