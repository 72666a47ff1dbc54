/- permute's steps. -/
import Derived.Test.YtoipnjfajandmaaDoorVPC4
namespace Go.Proofs.YtoipnjfajandmaaDoor
open Go.RowKit
theorem AgP.lit {ag : Array Value} {si : Int} {be ga : Nat} {v : Value} (h : AgP ag si be ga v) : ag = #[.int .i64 si, .int .u64 ((limb 0 be : Nat) : Int), .int .u64 ((limb 1 be : Nat) : Int), .int .u64 ((limb 2 be : Nat) : Int), .int .u64 ((limb 3 be : Nat) : Int), .int .u64 ((limb 0 ga : Nat) : Int), .int .u64 ((limb 1 ga : Nat) : Int), .int .u64 ((limb 2 ga : Nat) : Int), .int .u64 ((limb 3 ga : Nat) : Int), v] := by
  obtain ⟨l⟩ := ag
  obtain ⟨h0, h1, ⟨b0, b1, b2, b3⟩, ⟨g0, g1, g2, g3⟩, h9⟩ := h
  match l, h0 with
  | [x0, x1, x2, x3, x4, x5, x6, x7, x8, x9], _ =>
    simp at h1 b0 b1 b2 b3 g0 g1 g2 g3 h9
    subst h1 b0 b1 b2 b3 g0 g1 g2 g3 h9
    rfl
theorem sizS16 : (Tryd.prog.info? 27).map (·.size) = some 16 := by kernel_rfl
set_option maxHeartbeats 16000000 in
set_option maxRecDepth 20000 in
/-- permute's steps, by what the callees answer. -/
theorem steps_walk (si : Int) (n m ca ab ao cb bb bo cz zb zo x x1 x2 us be ga : Nat) (sv : Value) (ag sp : Array Value) (A O D At Nx La nx ow px po df st : Nat → Nat) (fS kS cS : Nat → Nat) (hm : m ≤ 1000) (hA : AgP ag si be ga sv) (hS : SpV sp x x1 x2 us) (w : World) (hg : Glob w) (hc : CelS w zb zo m At Nx La)
    (hcl : ∀ w', Glob w' → Below w.heap.size w w' → Calls Tryd.prog 57 #[.agg ag, .agg #[.int .u64 ((limb 0 (x) : Nat) : Int), .int .u64 ((limb 1 (x) : Nat) : Int), .int .u64 ((limb 2 (x) : Nat) : Int), .int .u64 ((limb 3 (x) : Nat) : Int)], .slice (some ⟨ab, ao, none⟩) n ca, .slice (some ⟨bb, bo, none⟩) n cb] w' fun e w'' => (∃ G, e = .returned (.slice (some ⟨G, 0, none⟩) n n) ∧ w'.heap.size ≤ G ∧ CelK w'' G n A O D) ∧ Below w'.heap.size w' w'')
    (hck : ∀ G j, j < m → ∀ w, Calls Tryd.prog 58 #[.slice (some ⟨G, 0, none⟩) n n, .int .i64 (j : Int)] w fun e w' => e = .returned (.slice (some ⟨G, fS j, none⟩) (kS j) (cS j)) ∧ w' = w)
    (hbn : ∀ G j, j < m → ∀ w, Glob w → CelK w G n A O D → Calls Tryd.prog 59 #[.agg ag, .slice (some ⟨G, fS j, none⟩) (kS j) (cS j)] w fun e w' => e = .returned (.agg #[.int .u64 ((limb 0 (px j) : Nat) : Int), .int .u64 ((limb 1 (px j) : Nat) : Int), .int .u64 ((limb 2 (px j) : Nat) : Int), .int .u64 ((limb 3 (px j) : Nat) : Int)]) ∧ Below w.heap.size w w')
    (hbo : ∀ G j, j < m → ∀ w, Glob w → CelK w G n A O D → Calls Tryd.prog 60 #[.agg ag, .slice (some ⟨G, fS j, none⟩) (kS j) (cS j)] w fun e w' => e = .returned (.agg #[.int .u64 ((limb 0 (po j) : Nat) : Int), .int .u64 ((limb 1 (po j) : Nat) : Int), .int .u64 ((limb 2 (po j) : Nat) : Int), .int .u64 ((limb 3 (po j) : Nat) : Int)]) ∧ Below w.heap.size w w')
    (hm1 : ∀ j, j < m → ∀ w, Glob w → Calls Tryd.prog 44 #[.int .i64 si, .agg #[.int .u64 ((limb 0 (Nx j) : Nat) : Int), .int .u64 ((limb 1 (Nx j) : Nat) : Int), .int .u64 ((limb 2 (Nx j) : Nat) : Int), .int .u64 ((limb 3 (Nx j) : Nat) : Int)], .agg #[.int .u64 ((limb 0 (px j) : Nat) : Int), .int .u64 ((limb 1 (px j) : Nat) : Int), .int .u64 ((limb 2 (px j) : Nat) : Int), .int .u64 ((limb 3 (px j) : Nat) : Int)]] w fun e w' => e = .returned (.agg #[.int .u64 ((limb 0 (nx j) : Nat) : Int), .int .u64 ((limb 1 (nx j) : Nat) : Int), .int .u64 ((limb 2 (nx j) : Nat) : Int), .int .u64 ((limb 3 (nx j) : Nat) : Int)]) ∧ Below w.heap.size w w')
    (hm2 : ∀ j, j < m → ∀ w, Glob w → Calls Tryd.prog 44 #[.int .i64 si, .agg #[.int .u64 ((limb 0 (At j) : Nat) : Int), .int .u64 ((limb 1 (At j) : Nat) : Int), .int .u64 ((limb 2 (At j) : Nat) : Int), .int .u64 ((limb 3 (At j) : Nat) : Int)], .agg #[.int .u64 ((limb 0 (po j) : Nat) : Int), .int .u64 ((limb 1 (po j) : Nat) : Int), .int .u64 ((limb 2 (po j) : Nat) : Int), .int .u64 ((limb 3 (po j) : Nat) : Int)]] w fun e w' => e = .returned (.agg #[.int .u64 ((limb 0 (ow j) : Nat) : Int), .int .u64 ((limb 1 (ow j) : Nat) : Int), .int .u64 ((limb 2 (ow j) : Nat) : Int), .int .u64 ((limb 3 (ow j) : Nat) : Int)]) ∧ Below w.heap.size w w')
    (hsb : ∀ j, j < m → ∀ w, Glob w → Calls Tryd.prog 56 #[.int .i64 si, .agg #[.int .u64 ((limb 0 (nx j) : Nat) : Int), .int .u64 ((limb 1 (nx j) : Nat) : Int), .int .u64 ((limb 2 (nx j) : Nat) : Int), .int .u64 ((limb 3 (nx j) : Nat) : Int)], .agg #[.int .u64 ((limb 0 (ow j) : Nat) : Int), .int .u64 ((limb 1 (ow j) : Nat) : Int), .int .u64 ((limb 2 (ow j) : Nat) : Int), .int .u64 ((limb 3 (ow j) : Nat) : Int)]] w fun e w' => e = .returned (.agg #[.int .u64 ((limb 0 (df j) : Nat) : Int), .int .u64 ((limb 1 (df j) : Nat) : Int), .int .u64 ((limb 2 (df j) : Nat) : Int), .int .u64 ((limb 3 (df j) : Nat) : Int)]) ∧ Below w.heap.size w w')
    (hm3 : ∀ j, j < m → ∀ w, Glob w → Calls Tryd.prog 44 #[.int .i64 si, .agg #[.int .u64 ((limb 0 (us) : Nat) : Int), .int .u64 ((limb 1 (us) : Nat) : Int), .int .u64 ((limb 2 (us) : Nat) : Int), .int .u64 ((limb 3 (us) : Nat) : Int)], .agg #[.int .u64 ((limb 0 (df j) : Nat) : Int), .int .u64 ((limb 1 (df j) : Nat) : Int), .int .u64 ((limb 2 (df j) : Nat) : Int), .int .u64 ((limb 3 (df j) : Nat) : Int)]] w fun e w' => e = .returned (.agg #[.int .u64 ((limb 0 (st j) : Nat) : Int), .int .u64 ((limb 1 (st j) : Nat) : Int), .int .u64 ((limb 2 (st j) : Nat) : Int), .int .u64 ((limb 3 (st j) : Nat) : Int)]) ∧ Below w.heap.size w w') :
    Calls Tryd.prog 29 #[.agg ag, .agg sp, .slice (some ⟨ab, ao, none⟩) n ca, .slice (some ⟨bb, bo, none⟩) n cb, .slice (some ⟨zb, zo, none⟩) m cz] w fun e w' => (∃ H, e = .returned (.slice (some ⟨H, 0, none⟩) m m) ∧ w.heap.size ≤ H ∧ BlkE w' H m st) ∧ Below w.heap.size w w' := by
  obtain ⟨i0, hi, hz0, hz1, hz2⟩ := elemInfo
  have HI := (show Hid _ from hi); have HZ := (show Hid _ from And.intro hz0 (And.intro hz1 hz2)); clear hi hz0 hz1 hz2
  have HCL : Hid (∀ w', Glob w' → _) := hcl
  have HCK : Hid (∀ G j, j < m → ∀ w, _) := hck
  have HBN : Hid (∀ G j, j < m → ∀ w, Glob w → _) := hbn
  have HBO : Hid (∀ G j, j < m → ∀ w, Glob w → _) := hbo
  have HM1 : Hid (∀ j, j < m → ∀ w, Glob w → _) := hm1
  have HM2 : Hid (∀ j, j < m → ∀ w, Glob w → _) := hm2
  have HSB : Hid (∀ j, j < m → ∀ w, Glob w → _) := hsb
  have HM3 : Hid (∀ j, j < m → ∀ w, Glob w → _) := hm3
  have HG : Hid (Glob w) := hg
  have HAV : Hid (AgP ag si be ga sv) := hA
  have HSV : Hid (SpV sp x x1 x2 us) := hS
  have HC0 : Hid (CelS w zb zo m At Nx La) := hc
  have HS10 : Hid ((Tryd.prog.info? 56).map (·.size) = some ag.size) := by rw [hA.1]; exact sizG
  have HM9 : Hid (m ≤ 1000) := hm
  clear hcl hck hbn hbo hm1 hm2 hsb hm3 hg hA hS hc
  go_enter Tryd.func29, Tryd.ntmps29
  go_upto_region 1 with fail
  have hs1 : (w.alloc (.cells ag 56)).heap.size = w.heap.size + 1 := Array.size_push ..
  obtain ⟨N5, e0⟩ : ∃ z, z = w.heap.size := ⟨_, rfl⟩
  obtain ⟨N6, e1⟩ : ∃ z, z = N5 + 1 := ⟨_, rfl⟩
  obtain ⟨w1, hw1⟩ : ∃ z : World, z = (w.alloc (.cells ag 56)).alloc (.cells sp 27) := ⟨_, rfl⟩
  have b5 : Lay w1 56 N5 ag := by rw [hw1]; exact (Lay.newAt _ _ _ e0).alloc _
  have b6 : Lay w1 27 N6 sp := by rw [hw1]; exact Lay.newAt _ _ _ (by rw [e1, e0, hs1])
  have hb1 : Below w.heap.size w w1 := by rw [hw1]; exact bAlloc (bAlloc (Below.refl _ _) _) _
  rw [← hw1]
  try rw [← e0]
  try rw [← e1]
  have l5 : w.heap.size ≤ N5 := by omega
  have l6 : w.heap.size ≤ N6 := by omega
  have n5_6 : N5 ≠ N6 := by omega
  clear hw1 e0 e1 hs1
  have HG1 : Hid (Glob w1) := HG.out.below hb1
  have AGE := HAV.out.lit
  have HAGE : Hid (ag = #[.int .i64 si, .int .u64 ((limb 0 be : Nat) : Int), .int .u64 ((limb 1 be : Nat) : Int), .int .u64 ((limb 2 be : Nat) : Int), .int .u64 ((limb 3 be : Nat) : Int), .int .u64 ((limb 0 ga : Nat) : Int), .int .u64 ((limb 1 ga : Nat) : Int), .int .u64 ((limb 2 ga : Nat) : Int), .int .u64 ((limb 3 ga : Nat) : Int), sv]) := AGE
  clear AGE
  have k0 := b5.at HAV.out.2.1
  obtain ⟨k1, k2, k3, k4⟩ : w1.cell? ⟨N5, 1, none⟩ = _ ∧ w1.cell? ⟨N5, 2, none⟩ = _ ∧ w1.cell? ⟨N5, 3, none⟩ = _ ∧ w1.cell? ⟨N5, 4, none⟩ = _ := b5.el HAV.out.2.2.1
  obtain ⟨k5, k6, k7, k8⟩ : w1.cell? ⟨N5, 5, none⟩ = _ ∧ w1.cell? ⟨N5, 6, none⟩ = _ ∧ w1.cell? ⟨N5, 7, none⟩ = _ ∧ w1.cell? ⟨N5, 8, none⟩ = _ := b5.el HAV.out.2.2.2.1
  have k9 := b5.at HAV.out.2.2.2.2
  obtain ⟨q0, q1, q2, q3⟩ : w1.cell? ⟨N6, 0, none⟩ = _ ∧ w1.cell? ⟨N6, 1, none⟩ = _ ∧ w1.cell? ⟨N6, 2, none⟩ = _ ∧ w1.cell? ⟨N6, 3, none⟩ = _ := b6.el HSV.out.2.1
  go_wp2_with fail
  rw [← HAGE.out]
  refine (HCL.out w1 HG1.out hb1).mono ?_
  rintro e w2 ⟨⟨G, rfl, lG, ck⟩, hb⟩
  have c5 := b5.belowAll hb; have c6 := b6.belowAll hb
  have hb2 := bStep hb1 hb
  clear k0 k1 k2 k3 k4 k5 k6 k7 k8 k9 q0 q1 q2 q3 hb b5 b6 hb1 HCL HG1 lG
  go_wp2_with (first
    | (at_make; refine wpList_make_full _ rfl _ _ 32 rfl w2.heap.size 24 i0 (.agg #[.int .u64 0, .int .u64 0, .int .u64 0, .int .u64 0]) 4 Tryd.underlying32 HI.out HZ.out.1 HZ.out.2.1 .i64 .i64 m m m rfl rfl rfl rfl ?c1 ?c2 (Nat.le_refl _) ?_)
    | go_in)
  case c1 => rw [HZ.out.2.2]; have := HM9.out; omega
  case c2 => unfold maxLen; have := HM9.out; omega
  intro w3 hown hgrow
  obtain ⟨H, eH⟩ : ∃ H, H = w2.heap.size := ⟨_, rfl⟩
  rw [← eH] at hown ⊢
  have bo := (own_blkE (f := fun _ => 0) hown (fun i hi j hj => by rw [made_zero m (i * 4 + j) (by omega), limb_zero]; rfl)).1
  have hbe := (Below.refl _ w2).grown hgrow (Nat.le_refl _) (fun j hj => by cases hj)
  have hb3 := bStep hb2 hbe
  have lH : w.heap.size ≤ H := by rw [eH]; exact hb2.size
  have d5 := c5.belowAll hbe; have d6 := c6.belowAll hbe; have dk := ck.belowAll hbe
  have n5H : N5 ≠ H := by have := c5.lt; omega
  have n6H : N6 ≠ H := by have := c6.lt; omega
  have nGH : G ≠ H := by have := ck.lt; omega
  clear hown hgrow hbe c5 c6 ck hb2 eH HI HZ
  go_wp2
  go_loopw [29] (fun iv wr => ∃ j : Nat, iv = .int .i64 (j : Int) ∧ j ≤ m ∧ BlkE wr H m (fun i => if i < j then st i else 0) ∧ Below w.heap.size w wr ∧ Lay wr 56 N5 ag ∧ Lay wr 27 N6 sp ∧ CelK wr G n A O D) (fun iv _ => m - (intOf iv).toNat)
  case atStart => exact ⟨0, rfl, Nat.zero_le _, bo.congr (fun i hi => by rw [if_neg (Nat.not_lt_zero i)]), hb3, d5, d6, dk⟩
  case round =>
    obtain ⟨j, rfl, hj, bh, hbr, p5, p6, pk⟩ := hrel
    clear bo hb3 d5 d6 dk
    by_cases hlt : j < m
    · have hji : (j : Int) < (m : Int) := by omega
      obtain ⟨hA4, hB4, hC4⟩ := (HC0.out.below hbr HC0.out.1).2 j hlt
      have C1 : Hid (∀ w, _) := HCK.out G j hlt
      have C2 : Hid (∀ w, Glob w → CelK w G n A O D → _) := HBN.out G j hlt
      have C3 : Hid (∀ w, Glob w → CelK w G n A O D → _) := HBO.out G j hlt
      have C4 : Hid (∀ w, Glob w → _) := HM1.out j hlt
      have C5 : Hid (∀ w, Glob w → _) := HM2.out j hlt
      have C6 : Hid (∀ w, Glob w → _) := HSB.out j hlt
      have C7 : Hid (∀ w, Glob w → _) := HM3.out j hlt
      obtain ⟨a, ea⟩ : ∃ a, a = At j := ⟨_, rfl⟩
      obtain ⟨b, eb⟩ : ∃ b, b = Nx j := ⟨_, rfl⟩
      obtain ⟨c, ec⟩ : ∃ c, c = La j := ⟨_, rfl⟩
      rw [← ea] at hA4 C5
      rw [← eb] at hB4 C4
      rw [← ec] at hC4
      obtain ⟨t1, e1⟩ : ∃ z, z = px j := ⟨_, rfl⟩
      rw [← e1] at C2 C4
      obtain ⟨t2, e2⟩ : ∃ z, z = po j := ⟨_, rfl⟩
      rw [← e2] at C3 C5
      obtain ⟨u1, f1⟩ : ∃ z, z = nx j := ⟨_, rfl⟩
      rw [← f1] at C4 C6
      obtain ⟨u2, f2⟩ : ∃ z, z = ow j := ⟨_, rfl⟩
      rw [← f2] at C5 C6
      obtain ⟨u3, f3⟩ : ∃ z, z = df j := ⟨_, rfl⟩
      rw [← f3] at C6 C7
      obtain ⟨y, ey⟩ : ∃ z, z = st j := ⟨_, rfl⟩
      rw [← ey] at C7
      have HY : Hid (y = st j) := ey
      obtain ⟨kf, ekf⟩ : ∃ z, z = fS j := ⟨_, rfl⟩
      obtain ⟨kk, ekk⟩ : ∃ z, z = kS j := ⟨_, rfl⟩
      obtain ⟨kc, ekc⟩ : ∃ z, z = cS j := ⟨_, rfl⟩
      rw [← ekf, ← ekk, ← ekc] at C1 C2 C3
      have c0 : wr.cell? ⟨zb, zo + j * 12, none⟩ = some (.int .u64 ((limb 0 a : Nat) : Int)) := hA4 0 (by decide)
      have c1 : wr.cell? ⟨zb, zo + j * 12 + 1, none⟩ = some (.int .u64 ((limb 1 a : Nat) : Int)) := hA4 1 (by decide)
      have c2 : wr.cell? ⟨zb, zo + j * 12 + 2, none⟩ = some (.int .u64 ((limb 2 a : Nat) : Int)) := hA4 2 (by decide)
      have c3 : wr.cell? ⟨zb, zo + j * 12 + 3, none⟩ = some (.int .u64 ((limb 3 a : Nat) : Int)) := hA4 3 (by decide)
      have c4 : wr.cell? ⟨zb, zo + j * 12 + 4, none⟩ = some (.int .u64 ((limb 0 b : Nat) : Int)) := hB4 0 (by decide)
      have c5 : wr.cell? ⟨zb, zo + j * 12 + 5, none⟩ = some (.int .u64 ((limb 1 b : Nat) : Int)) := hB4 1 (by decide)
      have c6 : wr.cell? ⟨zb, zo + j * 12 + 6, none⟩ = some (.int .u64 ((limb 2 b : Nat) : Int)) := hB4 2 (by decide)
      have c7 : wr.cell? ⟨zb, zo + j * 12 + 7, none⟩ = some (.int .u64 ((limb 3 b : Nat) : Int)) := hB4 3 (by decide)
      have c8 : wr.cell? ⟨zb, zo + j * 12 + 8, none⟩ = some (.int .u64 ((limb 0 c : Nat) : Int)) := hC4 0 (by decide)
      have c9 : wr.cell? ⟨zb, zo + j * 12 + 9, none⟩ = some (.int .u64 ((limb 1 c : Nat) : Int)) := hC4 1 (by decide)
      have c10 : wr.cell? ⟨zb, zo + j * 12 + 10, none⟩ = some (.int .u64 ((limb 2 c : Nat) : Int)) := hC4 2 (by decide)
      have c11 : wr.cell? ⟨zb, zo + j * 12 + 11, none⟩ = some (.int .u64 ((limb 3 c : Nat) : Int)) := hC4 3 (by decide)
      clear hA4 hB4 hC4 ea eb ec e1 e2 f1 f2 f3 ey ekf ekk ekc
      go_upto_region 6 with fail
      obtain ⟨cs, ecs⟩ : ∃ cs : Array Value, cs = #[.int .u64 ((limb 0 a : Nat) : Int), .int .u64 ((limb 1 a : Nat) : Int), .int .u64 ((limb 2 a : Nat) : Int), .int .u64 ((limb 3 a : Nat) : Int), .int .u64 ((limb 0 b : Nat) : Int), .int .u64 ((limb 1 b : Nat) : Int), .int .u64 ((limb 2 b : Nat) : Int), .int .u64 ((limb 3 b : Nat) : Int), .int .u64 ((limb 0 c : Nat) : Int), .int .u64 ((limb 1 c : Nat) : Int), .int .u64 ((limb 2 c : Nat) : Int), .int .u64 ((limb 3 c : Nat) : Int)] := ⟨_, rfl⟩
      have HCS : Hid (cs.size = 12 ∧ El cs 0 a ∧ El cs 4 b ∧ El cs 8 c) := by rw [ecs]; exact ⟨rfl, ⟨rfl, rfl, rfl, rfl⟩, ⟨rfl, rfl, rfl, rfl⟩, ⟨rfl, rfl, rfl, rfl⟩⟩
      rw [← ecs]
      clear ecs c0 c1 c2 c3 c4 c5 c6 c7 c8 c9 c10 c11
      obtain ⟨wa, hwa⟩ : ∃ z : World, z = wr.alloc (.cells cs 62) := ⟨_, rfl⟩
      obtain ⟨N14, e14⟩ : ∃ z, z = wr.heap.size := ⟨_, rfl⟩
      have b14 : Lay wa 62 N14 cs := by rw [hwa]; exact Lay.newAt _ _ _ e14
      have hbn : Below wr.heap.size wr wa := by rw [hwa]; exact bAlloc (Below.refl _ _) _
      have r5 := p5.belowAll hbn; have r6 := p6.belowAll hbn; have rk := pk.belowAll hbn; have bha := bh.belowAll hbn
      have hba := bStep hbr hbn
      have HGa : Hid (Glob wa) := HG.out.below hba
      rw [← hwa]
      try rw [← e14]
      clear hwa e14 hbn p5 p6 pk bh hbr
      go_wp2_with fail
      refine (C1.out wa).mono ?_
      rintro e w4 ⟨rfl, e4⟩
      subst e4
      go_upto_region 7 with fail
      go_cut [16, 17] (fun pv qv wx => ∃ N16 N17, pv = .pointer (some ⟨N16, 0, none⟩) ∧ qv = .pointer (some ⟨N17, 0, none⟩) ∧ Below w4.heap.size w4 wx ∧ Blk wx 24 N16 (fun i => limb i u1) ∧ Blk wx 24 N17 (fun i => limb i u2))
      case first =>
        have HS0 : Hid (Below w4.heap.size w4 w4.drew) := (Below.refl _ _).drew
        refine wp_region_Z (fun w' => Kp w4 w') 99 (by kernel_rfl) ?_
        refine wpZ_take (i := 0) (v := .pointer (some ⟨N5, 0, none⟩)) 37 rfl rfl (by kernel_rfl) (by kernel_rfl) (by kernel_rfl) (Or.inr (by decide)) (fun _ _ _ h => h) (Or.inl ⟨by rfl, fun w hSw => by go_simp⟩) (HS0.out) ?_
        simp only [Act.put, List.setIfInBounds_toArray]
        dsimp only [List.set_cons_zero, List.set_cons_succ]
        refine wpZ_take (i := 1) (v := .int .i64 si) 38 rfl rfl (by kernel_rfl) (by kernel_rfl) (by kernel_rfl) (Or.inr (by decide)) (fun _ _ _ h => h) (Or.inl ⟨by rfl, fun w hSw => by (have qq := (r5.belowAll hSw).at HAV.out.2.1; clear hSw; go_simp)⟩) (HS0.out) ?_
        simp only [Act.put, List.setIfInBounds_toArray]
        dsimp only [List.set_cons_zero, List.set_cons_succ]
        refine wpZ_take (i := 2) (v := .pointer (some ⟨N14, 4, none⟩)) 39 rfl rfl (by kernel_rfl) (by kernel_rfl) (by kernel_rfl) (Or.inr (by decide)) (fun _ _ _ h => h) (Or.inl ⟨by rfl, fun w hSw => by go_simp⟩) (HS0.out) ?_
        simp only [Act.put, List.setIfInBounds_toArray]
        dsimp only [List.set_cons_zero, List.set_cons_succ]
        refine wpZ_take (i := 3) (v := .agg #[.int .u64 ((limb 0 (b) : Nat) : Int), .int .u64 ((limb 1 (b) : Nat) : Int), .int .u64 ((limb 2 (b) : Nat) : Int), .int .u64 ((limb 3 (b) : Nat) : Int)]) 40 rfl rfl (by kernel_rfl) (by kernel_rfl) (by kernel_rfl) (Or.inr (by decide)) (fun _ _ _ h => h) (Or.inl ⟨by rfl, fun w hSw => by (obtain ⟨q0, q1, q2, q3⟩ : w.cell? ⟨N14, 4, none⟩ = _ ∧ w.cell? ⟨N14, 5, none⟩ = _ ∧ w.cell? ⟨N14, 6, none⟩ = _ ∧ w.cell? ⟨N14, 7, none⟩ = _ := (b14.belowAll hSw).el HCS.out.2.2.1; clear hSw; go_simp)⟩) (HS0.out) ?_
        simp only [Act.put, List.setIfInBounds_toArray]
        dsimp only [List.set_cons_zero, List.set_cons_succ]
        refine wpZ_take (i := 4) (v := .agg ag) 41 rfl rfl (by kernel_rfl) (by kernel_rfl) (by kernel_rfl) (Or.inr (by decide)) (fun _ _ _ h => h) (yLd undG rfl _ rfl N5 rfl ag HS10.out (fun w hSw => r5.belowAll hSw)) (HS0.out) ?_
        simp only [Act.put, List.setIfInBounds_toArray]
        dsimp only [List.set_cons_zero, List.set_cons_succ]
        refine wpZ_take (i := 5) (v := .slice (some ⟨G, kf, none⟩) kk kc) 42 rfl rfl (by kernel_rfl) (by kernel_rfl) (by kernel_rfl) (Or.inr (by decide)) (fun _ _ _ h => h) (Or.inl ⟨by rfl, fun w hSw => by go_simp⟩) (HS0.out) ?_
        simp only [Act.put, List.setIfInBounds_toArray]
        dsimp only [List.set_cons_zero, List.set_cons_succ]
        refine wpZ_take (i := 8) (v := .pointer (some ⟨N5, 0, none⟩)) 45 rfl rfl (by kernel_rfl) (by kernel_rfl) (by kernel_rfl) (Or.inr (by decide)) (fun _ _ _ h => h) (Or.inl ⟨by rfl, fun w hSw => by go_simp⟩) (HS0.out) ?_
        simp only [Act.put, List.setIfInBounds_toArray]
        dsimp only [List.set_cons_zero, List.set_cons_succ]
        refine wpZ_take (i := 9) (v := .int .i64 si) 46 rfl rfl (by kernel_rfl) (by kernel_rfl) (by kernel_rfl) (Or.inr (by decide)) (fun _ _ _ h => h) (Or.inl ⟨by rfl, fun w hSw => by (have qq := (r5.belowAll hSw).at HAV.out.2.1; clear hSw; go_simp)⟩) (HS0.out) ?_
        simp only [Act.put, List.setIfInBounds_toArray]
        dsimp only [List.set_cons_zero, List.set_cons_succ]
        refine wpZ_take (i := 10) (v := .pointer (some ⟨N14, 0, none⟩)) 47 rfl rfl (by kernel_rfl) (by kernel_rfl) (by kernel_rfl) (Or.inr (by decide)) (fun _ _ _ h => h) (Or.inl ⟨by rfl, fun w hSw => by go_simp⟩) (HS0.out) ?_
        simp only [Act.put, List.setIfInBounds_toArray]
        dsimp only [List.set_cons_zero, List.set_cons_succ]
        refine wpZ_take (i := 11) (v := .agg #[.int .u64 ((limb 0 (a) : Nat) : Int), .int .u64 ((limb 1 (a) : Nat) : Int), .int .u64 ((limb 2 (a) : Nat) : Int), .int .u64 ((limb 3 (a) : Nat) : Int)]) 48 rfl rfl (by kernel_rfl) (by kernel_rfl) (by kernel_rfl) (Or.inr (by decide)) (fun _ _ _ h => h) (Or.inl ⟨by rfl, fun w hSw => by (obtain ⟨q0, q1, q2, q3⟩ : w.cell? ⟨N14, 0, none⟩ = _ ∧ w.cell? ⟨N14, 1, none⟩ = _ ∧ w.cell? ⟨N14, 2, none⟩ = _ ∧ w.cell? ⟨N14, 3, none⟩ = _ := (b14.belowAll hSw).el HCS.out.2.1; clear hSw; go_simp)⟩) (HS0.out) ?_
        simp only [Act.put, List.setIfInBounds_toArray]
        dsimp only [List.set_cons_zero, List.set_cons_succ]
        refine wpZ_take (i := 12) (v := .agg ag) 49 rfl rfl (by kernel_rfl) (by kernel_rfl) (by kernel_rfl) (Or.inr (by decide)) (fun _ _ _ h => h) (yLd undG rfl _ rfl N5 rfl ag HS10.out (fun w hSw => r5.belowAll hSw)) (HS0.out) ?_
        simp only [Act.put, List.setIfInBounds_toArray]
        dsimp only [List.set_cons_zero, List.set_cons_succ]
        refine wpZ_take (i := 13) (v := .slice (some ⟨G, kf, none⟩) kk kc) 50 rfl rfl (by kernel_rfl) (by kernel_rfl) (by kernel_rfl) (Or.inr (by decide)) (fun _ _ _ h => h) (Or.inl ⟨by rfl, fun w hSw => by go_simp⟩) (HS0.out) ?_
        simp only [Act.put, List.setIfInBounds_toArray]
        dsimp only [List.set_cons_zero, List.set_cons_succ]
        refine wpZ_three (i := 6) (j := 16) (l := 17) (by kernel_rfl) rfl rfl rfl (fun K hK => ?_) (fun K hK => ?_) (fun K hK => ?_) 
        · go_simp
          refine (C2.out w4.drew (HGa.out.below (HS0.out)) (rk.belowAll (HS0.out))).mono ?_
          rintro e wK1 ⟨rfl, hbK1⟩
          have hSK1 : Below w4.heap.size w4 wK1 := bStep (HS0.out) hbK1
          go_wp2_with fail
          refine hK.out _ _ (fun _ => hSK1) ?_
          clear hK K
          refine wpZ_three (i := 7) (j := 16) (l := 17) (by kernel_rfl) rfl rfl rfl (fun K hK => ?_) (fun K hK => ?_) (fun K hK => ?_) 
          · go_simp
            refine (C4.out wK1 (HGa.out.below (hSK1))).mono ?_
            rintro e wK2 ⟨rfl, hbK2⟩
            have hSK2 : Below w4.heap.size w4 wK2 := bStep (hSK1) hbK2
            go_wp2_with fail
            refine hK.out _ _ (fun _ => hSK2) ?_
            clear hK K
            refine wpZ_three (i := 14) (j := 16) (l := 17) (by kernel_rfl) rfl rfl rfl (fun K hK => ?_) (fun K hK => ?_) (fun K hK => ?_) 
            · go_simp
              refine (C3.out wK2 (HGa.out.below (hSK2)) (rk.belowAll (hSK2))).mono ?_
              rintro e wK3 ⟨rfl, hbK3⟩
              have hSK3 : Below w4.heap.size w4 wK3 := bStep (hSK2) hbK3
              go_wp2_with fail
              refine hK.out _ _ (fun _ => hSK3) ?_
              clear hK K
              refine wpZ_three (i := 15) (j := 16) (l := 17) (by kernel_rfl) rfl rfl rfl (fun K hK => ?_) (fun K hK => ?_) (fun K hK => ?_) 
              · go_simp
                refine (C5.out wK3 (HGa.out.below (hSK3))).mono ?_
                rintro e wK4 ⟨rfl, hbK4⟩
                have hSK4 : Below w4.heap.size w4 wK4 := bStep (hSK3) hbK4
                go_wp2_with fail
                refine hK.out _ _ (fun _ => hSK4) ?_
                clear hK K
                refine wpZ_two (i := 16) (j := 17) (by kernel_rfl) rfl rfl (fun K hK => ?_) (fun K hK => ?_) 
                · go_simp
                  have hSK5' : Below w4.heap.size w4 (wK4.alloc (.cells #[.int .u64 0, .int .u64 0, .int .u64 0, .int .u64 0] 24)) := bAlloc (hSK4) _
                  refine hK.out _ _ (fun _ => hSK5') ?_
                  clear hK K
                  obtain ⟨N16_5, hN16_5⟩ : ∃ N, N = wK4.heap.size := ⟨_, rfl⟩
                  obtain ⟨wK5, hwK5⟩ : ∃ x : World, x = wK4.alloc (.cells #[.int .u64 0, .int .u64 0, .int .u64 0, .int .u64 0] 24) := ⟨_, rfl⟩
                  have hSK5 : Below w4.heap.size w4 wK5 := by rw [hwK5]; exact hSK5'
                  have b16_5 : Blk wK5 24 N16_5 (fun _ => 0) := by rw [hwK5, hN16_5]; exact Blk.new wK4 24 (fun _ => 0)
                  have lN16_5 : w4.heap.size ≤ N16_5 := by rw [hN16_5]; exact (hSK4).size
                  rw [← hwK5, ← hN16_5]
                  clear hwK5 hSK5' hN16_5
                  refine wpZ_one (i := 17) (by kernel_rfl) rfl (fun K hK => ?_)
                  go_simp
                  have hSK6' : Below w4.heap.size w4 (wK5.alloc (.cells #[.int .u64 0, .int .u64 0, .int .u64 0, .int .u64 0] 24)) := bAlloc (hSK5) _
                  refine hK.out _ _ (fun _ => hSK6') ?_
                  clear hK K
                  obtain ⟨N17_6, hN17_6⟩ : ∃ N, N = wK5.heap.size := ⟨_, rfl⟩
                  obtain ⟨wK6, hwK6⟩ : ∃ x : World, x = wK5.alloc (.cells #[.int .u64 0, .int .u64 0, .int .u64 0, .int .u64 0] 24) := ⟨_, rfl⟩
                  have hSK6 : Below w4.heap.size w4 wK6 := by rw [hwK6]; exact hSK6'
                  have b17_6 : Blk wK6 24 N17_6 (fun _ => 0) := by rw [hwK6, hN17_6]; exact Blk.new wK5 24 (fun _ => 0)
                  have lN17_6 : w4.heap.size ≤ N17_6 := by rw [hN17_6]; exact (hSK5).size
                  have b16_6 : Blk wK6 24 N16_5 (fun _ => 0) := by rw [hwK6]; exact b16_5.alloc _
                  have neN16_5_N17_6 : N16_5 ≠ N17_6 := by have := b16_5.lt; omega
                  rw [← hwK6, ← hN17_6]
                  clear hwK6 hSK6' hN17_6
                  refine wpZ_one (i := 18) (by kernel_rfl) rfl (fun K hK => ?_)
                  have cS := b16_6.cell; have fS := b16_6.frozen
                  go_simp
                  refine hK.out _ _ (fun _ => bSet4 (hSK6) lN16_5 _ _ _ _) ?_
                  clear hK K cS fS
                  obtain ⟨wK7, hwK7⟩ : ∃ x : World, x = ((((wK6.setCell ⟨N16_5, 0, none⟩ (.int .u64 ((limb 0 u1 : Nat) : Int))).setCell ⟨N16_5, 1, none⟩ (.int .u64 ((limb 1 u1 : Nat) : Int))).setCell ⟨N16_5, 2, none⟩ (.int .u64 ((limb 2 u1 : Nat) : Int))).setCell ⟨N16_5, 3, none⟩ (.int .u64 ((limb 3 u1 : Nat) : Int))) := ⟨_, rfl⟩
                  have hSK7 : Below w4.heap.size w4 wK7 := by rw [hwK7]; exact bSet4 (hSK6) lN16_5 _ _ _ _
                  have b16_7 : Blk wK7 24 N16_5 (fun i => limb i u1) := by rw [hwK7]; exact b16_6.set4 (fun i => limb i u1)
                  have b17_7 : Blk wK7 24 N17_6 (fun _ => 0) := by rw [hwK7]; exact b17_6.other4 (by omega) _ _ _ _
                  rw [← hwK7]
                  clear hwK7
                  refine wpZ_one (i := 19) (by kernel_rfl) rfl (fun K hK => ?_)
                  have cS := b17_7.cell; have fS := b17_7.frozen
                  go_simp
                  refine hK.out _ _ (fun _ => bSet4 (hSK7) lN17_6 _ _ _ _) ?_
                  clear hK K cS fS
                  obtain ⟨wK8, hwK8⟩ : ∃ x : World, x = ((((wK7.setCell ⟨N17_6, 0, none⟩ (.int .u64 ((limb 0 u2 : Nat) : Int))).setCell ⟨N17_6, 1, none⟩ (.int .u64 ((limb 1 u2 : Nat) : Int))).setCell ⟨N17_6, 2, none⟩ (.int .u64 ((limb 2 u2 : Nat) : Int))).setCell ⟨N17_6, 3, none⟩ (.int .u64 ((limb 3 u2 : Nat) : Int))) := ⟨_, rfl⟩
                  have hSK8 : Below w4.heap.size w4 wK8 := by rw [hwK8]; exact bSet4 (hSK7) lN17_6 _ _ _ _
                  have b16_8 : Blk wK8 24 N16_5 (fun i => limb i u1) := by rw [hwK8]; exact b16_7.other4 (by omega) _ _ _ _
                  have b17_8 : Blk wK8 24 N17_6 (fun i => limb i u2) := by rw [hwK8]; exact b17_7.set4 (fun i => limb i u2)
                  rw [← hwK8]
                  clear hwK8
                  refine wpZ_done (by kernel_rfl) ?_ _
                  go_wp2_with fail
                  go_meet
                  exact ⟨_, _, rfl, rfl, hSK8, b16_8, b17_8⟩
                · go_simp
                  have hSK5' : Below w4.heap.size w4 (wK4.alloc (.cells #[.int .u64 0, .int .u64 0, .int .u64 0, .int .u64 0] 24)) := bAlloc (hSK4) _
                  refine hK.out _ _ (fun _ => hSK5') ?_
                  clear hK K
                  obtain ⟨N17_5, hN17_5⟩ : ∃ N, N = wK4.heap.size := ⟨_, rfl⟩
                  obtain ⟨wK5, hwK5⟩ : ∃ x : World, x = wK4.alloc (.cells #[.int .u64 0, .int .u64 0, .int .u64 0, .int .u64 0] 24) := ⟨_, rfl⟩
                  have hSK5 : Below w4.heap.size w4 wK5 := by rw [hwK5]; exact hSK5'
                  have b17_5 : Blk wK5 24 N17_5 (fun _ => 0) := by rw [hwK5, hN17_5]; exact Blk.new wK4 24 (fun _ => 0)
                  have lN17_5 : w4.heap.size ≤ N17_5 := by rw [hN17_5]; exact (hSK4).size
                  rw [← hwK5, ← hN17_5]
                  clear hwK5 hSK5' hN17_5
                  refine wpZ_one (i := 16) (by kernel_rfl) rfl (fun K hK => ?_)
                  go_simp
                  have hSK6' : Below w4.heap.size w4 (wK5.alloc (.cells #[.int .u64 0, .int .u64 0, .int .u64 0, .int .u64 0] 24)) := bAlloc (hSK5) _
                  refine hK.out _ _ (fun _ => hSK6') ?_
                  clear hK K
                  obtain ⟨N16_6, hN16_6⟩ : ∃ N, N = wK5.heap.size := ⟨_, rfl⟩
                  obtain ⟨wK6, hwK6⟩ : ∃ x : World, x = wK5.alloc (.cells #[.int .u64 0, .int .u64 0, .int .u64 0, .int .u64 0] 24) := ⟨_, rfl⟩
                  have hSK6 : Below w4.heap.size w4 wK6 := by rw [hwK6]; exact hSK6'
                  have b16_6 : Blk wK6 24 N16_6 (fun _ => 0) := by rw [hwK6, hN16_6]; exact Blk.new wK5 24 (fun _ => 0)
                  have lN16_6 : w4.heap.size ≤ N16_6 := by rw [hN16_6]; exact (hSK5).size
                  have b17_6 : Blk wK6 24 N17_5 (fun _ => 0) := by rw [hwK6]; exact b17_5.alloc _
                  have neN17_5_N16_6 : N17_5 ≠ N16_6 := by have := b17_5.lt; omega
                  rw [← hwK6, ← hN16_6]
                  clear hwK6 hSK6' hN16_6
                  refine wpZ_one (i := 18) (by kernel_rfl) rfl (fun K hK => ?_)
                  have cS := b16_6.cell; have fS := b16_6.frozen
                  go_simp
                  refine hK.out _ _ (fun _ => bSet4 (hSK6) lN16_6 _ _ _ _) ?_
                  clear hK K cS fS
                  obtain ⟨wK7, hwK7⟩ : ∃ x : World, x = ((((wK6.setCell ⟨N16_6, 0, none⟩ (.int .u64 ((limb 0 u1 : Nat) : Int))).setCell ⟨N16_6, 1, none⟩ (.int .u64 ((limb 1 u1 : Nat) : Int))).setCell ⟨N16_6, 2, none⟩ (.int .u64 ((limb 2 u1 : Nat) : Int))).setCell ⟨N16_6, 3, none⟩ (.int .u64 ((limb 3 u1 : Nat) : Int))) := ⟨_, rfl⟩
                  have hSK7 : Below w4.heap.size w4 wK7 := by rw [hwK7]; exact bSet4 (hSK6) lN16_6 _ _ _ _
                  have b17_7 : Blk wK7 24 N17_5 (fun _ => 0) := by rw [hwK7]; exact b17_6.other4 (by omega) _ _ _ _
                  have b16_7 : Blk wK7 24 N16_6 (fun i => limb i u1) := by rw [hwK7]; exact b16_6.set4 (fun i => limb i u1)
                  rw [← hwK7]
                  clear hwK7
                  refine wpZ_one (i := 19) (by kernel_rfl) rfl (fun K hK => ?_)
                  have cS := b17_7.cell; have fS := b17_7.frozen
                  go_simp
                  refine hK.out _ _ (fun _ => bSet4 (hSK7) lN17_5 _ _ _ _) ?_
                  clear hK K cS fS
                  obtain ⟨wK8, hwK8⟩ : ∃ x : World, x = ((((wK7.setCell ⟨N17_5, 0, none⟩ (.int .u64 ((limb 0 u2 : Nat) : Int))).setCell ⟨N17_5, 1, none⟩ (.int .u64 ((limb 1 u2 : Nat) : Int))).setCell ⟨N17_5, 2, none⟩ (.int .u64 ((limb 2 u2 : Nat) : Int))).setCell ⟨N17_5, 3, none⟩ (.int .u64 ((limb 3 u2 : Nat) : Int))) := ⟨_, rfl⟩
                  have hSK8 : Below w4.heap.size w4 wK8 := by rw [hwK8]; exact bSet4 (hSK7) lN17_5 _ _ _ _
                  have b17_8 : Blk wK8 24 N17_5 (fun i => limb i u2) := by rw [hwK8]; exact b17_7.set4 (fun i => limb i u2)
                  have b16_8 : Blk wK8 24 N16_6 (fun i => limb i u1) := by rw [hwK8]; exact b16_7.other4 (by omega) _ _ _ _
                  rw [← hwK8]
                  clear hwK8
                  refine wpZ_done (by kernel_rfl) ?_ _
                  go_wp2_with fail
                  go_meet
                  exact ⟨_, _, rfl, rfl, hSK8, b16_8, b17_8⟩
              · go_simp
                have hSK4' : Below w4.heap.size w4 (wK3.alloc (.cells #[.int .u64 0, .int .u64 0, .int .u64 0, .int .u64 0] 24)) := bAlloc (hSK3) _
                refine hK.out _ _ (fun _ => hSK4') ?_
                clear hK K
                obtain ⟨N16_4, hN16_4⟩ : ∃ N, N = wK3.heap.size := ⟨_, rfl⟩
                obtain ⟨wK4, hwK4⟩ : ∃ x : World, x = wK3.alloc (.cells #[.int .u64 0, .int .u64 0, .int .u64 0, .int .u64 0] 24) := ⟨_, rfl⟩
                have hSK4 : Below w4.heap.size w4 wK4 := by rw [hwK4]; exact hSK4'
                have b16_4 : Blk wK4 24 N16_4 (fun _ => 0) := by rw [hwK4, hN16_4]; exact Blk.new wK3 24 (fun _ => 0)
                have lN16_4 : w4.heap.size ≤ N16_4 := by rw [hN16_4]; exact (hSK3).size
                rw [← hwK4, ← hN16_4]
                clear hwK4 hSK4' hN16_4
                refine wpZ_two (i := 15) (j := 17) (by kernel_rfl) rfl rfl (fun K hK => ?_) (fun K hK => ?_) 
                · go_simp
                  refine (C5.out wK4 (HGa.out.below (hSK4))).mono ?_
                  rintro e wK5 ⟨rfl, hbK5⟩
                  have hSK5 : Below w4.heap.size w4 wK5 := bStep (hSK4) hbK5
                  go_wp2_with fail
                  refine hK.out _ _ (fun _ => hSK5) ?_
                  clear hK K
                  have b16_5 := b16_4.belowAll hbK5
                  refine wpZ_one (i := 17) (by kernel_rfl) rfl (fun K hK => ?_)
                  go_simp
                  have hSK6' : Below w4.heap.size w4 (wK5.alloc (.cells #[.int .u64 0, .int .u64 0, .int .u64 0, .int .u64 0] 24)) := bAlloc (hSK5) _
                  refine hK.out _ _ (fun _ => hSK6') ?_
                  clear hK K
                  obtain ⟨N17_6, hN17_6⟩ : ∃ N, N = wK5.heap.size := ⟨_, rfl⟩
                  obtain ⟨wK6, hwK6⟩ : ∃ x : World, x = wK5.alloc (.cells #[.int .u64 0, .int .u64 0, .int .u64 0, .int .u64 0] 24) := ⟨_, rfl⟩
                  have hSK6 : Below w4.heap.size w4 wK6 := by rw [hwK6]; exact hSK6'
                  have b17_6 : Blk wK6 24 N17_6 (fun _ => 0) := by rw [hwK6, hN17_6]; exact Blk.new wK5 24 (fun _ => 0)
                  have lN17_6 : w4.heap.size ≤ N17_6 := by rw [hN17_6]; exact (hSK5).size
                  have b16_6 : Blk wK6 24 N16_4 (fun _ => 0) := by rw [hwK6]; exact b16_5.alloc _
                  have neN16_4_N17_6 : N16_4 ≠ N17_6 := by have := b16_5.lt; omega
                  rw [← hwK6, ← hN17_6]
                  clear hwK6 hSK6' hN17_6
                  refine wpZ_one (i := 18) (by kernel_rfl) rfl (fun K hK => ?_)
                  have cS := b16_6.cell; have fS := b16_6.frozen
                  go_simp
                  refine hK.out _ _ (fun _ => bSet4 (hSK6) lN16_4 _ _ _ _) ?_
                  clear hK K cS fS
                  obtain ⟨wK7, hwK7⟩ : ∃ x : World, x = ((((wK6.setCell ⟨N16_4, 0, none⟩ (.int .u64 ((limb 0 u1 : Nat) : Int))).setCell ⟨N16_4, 1, none⟩ (.int .u64 ((limb 1 u1 : Nat) : Int))).setCell ⟨N16_4, 2, none⟩ (.int .u64 ((limb 2 u1 : Nat) : Int))).setCell ⟨N16_4, 3, none⟩ (.int .u64 ((limb 3 u1 : Nat) : Int))) := ⟨_, rfl⟩
                  have hSK7 : Below w4.heap.size w4 wK7 := by rw [hwK7]; exact bSet4 (hSK6) lN16_4 _ _ _ _
                  have b16_7 : Blk wK7 24 N16_4 (fun i => limb i u1) := by rw [hwK7]; exact b16_6.set4 (fun i => limb i u1)
                  have b17_7 : Blk wK7 24 N17_6 (fun _ => 0) := by rw [hwK7]; exact b17_6.other4 (by omega) _ _ _ _
                  rw [← hwK7]
                  clear hwK7
                  refine wpZ_one (i := 19) (by kernel_rfl) rfl (fun K hK => ?_)
                  have cS := b17_7.cell; have fS := b17_7.frozen
                  go_simp
                  refine hK.out _ _ (fun _ => bSet4 (hSK7) lN17_6 _ _ _ _) ?_
                  clear hK K cS fS
                  obtain ⟨wK8, hwK8⟩ : ∃ x : World, x = ((((wK7.setCell ⟨N17_6, 0, none⟩ (.int .u64 ((limb 0 u2 : Nat) : Int))).setCell ⟨N17_6, 1, none⟩ (.int .u64 ((limb 1 u2 : Nat) : Int))).setCell ⟨N17_6, 2, none⟩ (.int .u64 ((limb 2 u2 : Nat) : Int))).setCell ⟨N17_6, 3, none⟩ (.int .u64 ((limb 3 u2 : Nat) : Int))) := ⟨_, rfl⟩
                  have hSK8 : Below w4.heap.size w4 wK8 := by rw [hwK8]; exact bSet4 (hSK7) lN17_6 _ _ _ _
                  have b16_8 : Blk wK8 24 N16_4 (fun i => limb i u1) := by rw [hwK8]; exact b16_7.other4 (by omega) _ _ _ _
                  have b17_8 : Blk wK8 24 N17_6 (fun i => limb i u2) := by rw [hwK8]; exact b17_7.set4 (fun i => limb i u2)
                  rw [← hwK8]
                  clear hwK8
                  refine wpZ_done (by kernel_rfl) ?_ _
                  go_wp2_with fail
                  go_meet
                  exact ⟨_, _, rfl, rfl, hSK8, b16_8, b17_8⟩
                · go_simp
                  have hSK5' : Below w4.heap.size w4 (wK4.alloc (.cells #[.int .u64 0, .int .u64 0, .int .u64 0, .int .u64 0] 24)) := bAlloc (hSK4) _
                  refine hK.out _ _ (fun _ => hSK5') ?_
                  clear hK K
                  obtain ⟨N17_5, hN17_5⟩ : ∃ N, N = wK4.heap.size := ⟨_, rfl⟩
                  obtain ⟨wK5, hwK5⟩ : ∃ x : World, x = wK4.alloc (.cells #[.int .u64 0, .int .u64 0, .int .u64 0, .int .u64 0] 24) := ⟨_, rfl⟩
                  have hSK5 : Below w4.heap.size w4 wK5 := by rw [hwK5]; exact hSK5'
                  have b17_5 : Blk wK5 24 N17_5 (fun _ => 0) := by rw [hwK5, hN17_5]; exact Blk.new wK4 24 (fun _ => 0)
                  have lN17_5 : w4.heap.size ≤ N17_5 := by rw [hN17_5]; exact (hSK4).size
                  have b16_5 : Blk wK5 24 N16_4 (fun _ => 0) := by rw [hwK5]; exact b16_4.alloc _
                  have neN16_4_N17_5 : N16_4 ≠ N17_5 := by have := b16_4.lt; omega
                  rw [← hwK5, ← hN17_5]
                  clear hwK5 hSK5' hN17_5
                  refine wpZ_one (i := 15) (by kernel_rfl) rfl (fun K hK => ?_)
                  go_simp
                  refine (C5.out wK5 (HGa.out.below (hSK5))).mono ?_
                  rintro e wK6 ⟨rfl, hbK6⟩
                  have hSK6 : Below w4.heap.size w4 wK6 := bStep (hSK5) hbK6
                  go_wp2_with fail
                  refine hK.out _ _ (fun _ => hSK6) ?_
                  clear hK K
                  have b16_6 := b16_5.belowAll hbK6
                  have b17_6 := b17_5.belowAll hbK6
                  refine wpZ_one (i := 18) (by kernel_rfl) rfl (fun K hK => ?_)
                  have cS := b16_6.cell; have fS := b16_6.frozen
                  go_simp
                  refine hK.out _ _ (fun _ => bSet4 (hSK6) lN16_4 _ _ _ _) ?_
                  clear hK K cS fS
                  obtain ⟨wK7, hwK7⟩ : ∃ x : World, x = ((((wK6.setCell ⟨N16_4, 0, none⟩ (.int .u64 ((limb 0 u1 : Nat) : Int))).setCell ⟨N16_4, 1, none⟩ (.int .u64 ((limb 1 u1 : Nat) : Int))).setCell ⟨N16_4, 2, none⟩ (.int .u64 ((limb 2 u1 : Nat) : Int))).setCell ⟨N16_4, 3, none⟩ (.int .u64 ((limb 3 u1 : Nat) : Int))) := ⟨_, rfl⟩
                  have hSK7 : Below w4.heap.size w4 wK7 := by rw [hwK7]; exact bSet4 (hSK6) lN16_4 _ _ _ _
                  have b16_7 : Blk wK7 24 N16_4 (fun i => limb i u1) := by rw [hwK7]; exact b16_6.set4 (fun i => limb i u1)
                  have b17_7 : Blk wK7 24 N17_5 (fun _ => 0) := by rw [hwK7]; exact b17_6.other4 (by omega) _ _ _ _
                  rw [← hwK7]
                  clear hwK7
                  refine wpZ_one (i := 19) (by kernel_rfl) rfl (fun K hK => ?_)
                  have cS := b17_7.cell; have fS := b17_7.frozen
                  go_simp
                  refine hK.out _ _ (fun _ => bSet4 (hSK7) lN17_5 _ _ _ _) ?_
                  clear hK K cS fS
                  obtain ⟨wK8, hwK8⟩ : ∃ x : World, x = ((((wK7.setCell ⟨N17_5, 0, none⟩ (.int .u64 ((limb 0 u2 : Nat) : Int))).setCell ⟨N17_5, 1, none⟩ (.int .u64 ((limb 1 u2 : Nat) : Int))).setCell ⟨N17_5, 2, none⟩ (.int .u64 ((limb 2 u2 : Nat) : Int))).setCell ⟨N17_5, 3, none⟩ (.int .u64 ((limb 3 u2 : Nat) : Int))) := ⟨_, rfl⟩
                  have hSK8 : Below w4.heap.size w4 wK8 := by rw [hwK8]; exact bSet4 (hSK7) lN17_5 _ _ _ _
                  have b16_8 : Blk wK8 24 N16_4 (fun i => limb i u1) := by rw [hwK8]; exact b16_7.other4 (by omega) _ _ _ _
                  have b17_8 : Blk wK8 24 N17_5 (fun i => limb i u2) := by rw [hwK8]; exact b17_7.set4 (fun i => limb i u2)
                  rw [← hwK8]
                  clear hwK8
                  refine wpZ_done (by kernel_rfl) ?_ _
                  go_wp2_with fail
                  go_meet
                  exact ⟨_, _, rfl, rfl, hSK8, b16_8, b17_8⟩
              · go_simp
                have hSK4' : Below w4.heap.size w4 (wK3.alloc (.cells #[.int .u64 0, .int .u64 0, .int .u64 0, .int .u64 0] 24)) := bAlloc (hSK3) _
                refine hK.out _ _ (fun _ => hSK4') ?_
                clear hK K
                obtain ⟨N17_4, hN17_4⟩ : ∃ N, N = wK3.heap.size := ⟨_, rfl⟩
                obtain ⟨wK4, hwK4⟩ : ∃ x : World, x = wK3.alloc (.cells #[.int .u64 0, .int .u64 0, .int .u64 0, .int .u64 0] 24) := ⟨_, rfl⟩
                have hSK4 : Below w4.heap.size w4 wK4 := by rw [hwK4]; exact hSK4'
                have b17_4 : Blk wK4 24 N17_4 (fun _ => 0) := by rw [hwK4, hN17_4]; exact Blk.new wK3 24 (fun _ => 0)
                have lN17_4 : w4.heap.size ≤ N17_4 := by rw [hN17_4]; exact (hSK3).size
                rw [← hwK4, ← hN17_4]
                clear hwK4 hSK4' hN17_4
                refine wpZ_two (i := 15) (j := 16) (by kernel_rfl) rfl rfl (fun K hK => ?_) (fun K hK => ?_) 
                · go_simp
                  refine (C5.out wK4 (HGa.out.below (hSK4))).mono ?_
                  rintro e wK5 ⟨rfl, hbK5⟩
                  have hSK5 : Below w4.heap.size w4 wK5 := bStep (hSK4) hbK5
                  go_wp2_with fail
                  refine hK.out _ _ (fun _ => hSK5) ?_
                  clear hK K
                  have b17_5 := b17_4.belowAll hbK5
                  refine wpZ_one (i := 16) (by kernel_rfl) rfl (fun K hK => ?_)
                  go_simp
                  have hSK6' : Below w4.heap.size w4 (wK5.alloc (.cells #[.int .u64 0, .int .u64 0, .int .u64 0, .int .u64 0] 24)) := bAlloc (hSK5) _
                  refine hK.out _ _ (fun _ => hSK6') ?_
                  clear hK K
                  obtain ⟨N16_6, hN16_6⟩ : ∃ N, N = wK5.heap.size := ⟨_, rfl⟩
                  obtain ⟨wK6, hwK6⟩ : ∃ x : World, x = wK5.alloc (.cells #[.int .u64 0, .int .u64 0, .int .u64 0, .int .u64 0] 24) := ⟨_, rfl⟩
                  have hSK6 : Below w4.heap.size w4 wK6 := by rw [hwK6]; exact hSK6'
                  have b16_6 : Blk wK6 24 N16_6 (fun _ => 0) := by rw [hwK6, hN16_6]; exact Blk.new wK5 24 (fun _ => 0)
                  have lN16_6 : w4.heap.size ≤ N16_6 := by rw [hN16_6]; exact (hSK5).size
                  have b17_6 : Blk wK6 24 N17_4 (fun _ => 0) := by rw [hwK6]; exact b17_5.alloc _
                  have neN17_4_N16_6 : N17_4 ≠ N16_6 := by have := b17_5.lt; omega
                  rw [← hwK6, ← hN16_6]
                  clear hwK6 hSK6' hN16_6
                  refine wpZ_one (i := 18) (by kernel_rfl) rfl (fun K hK => ?_)
                  have cS := b16_6.cell; have fS := b16_6.frozen
                  go_simp
                  refine hK.out _ _ (fun _ => bSet4 (hSK6) lN16_6 _ _ _ _) ?_
                  clear hK K cS fS
                  obtain ⟨wK7, hwK7⟩ : ∃ x : World, x = ((((wK6.setCell ⟨N16_6, 0, none⟩ (.int .u64 ((limb 0 u1 : Nat) : Int))).setCell ⟨N16_6, 1, none⟩ (.int .u64 ((limb 1 u1 : Nat) : Int))).setCell ⟨N16_6, 2, none⟩ (.int .u64 ((limb 2 u1 : Nat) : Int))).setCell ⟨N16_6, 3, none⟩ (.int .u64 ((limb 3 u1 : Nat) : Int))) := ⟨_, rfl⟩
                  have hSK7 : Below w4.heap.size w4 wK7 := by rw [hwK7]; exact bSet4 (hSK6) lN16_6 _ _ _ _
                  have b17_7 : Blk wK7 24 N17_4 (fun _ => 0) := by rw [hwK7]; exact b17_6.other4 (by omega) _ _ _ _
                  have b16_7 : Blk wK7 24 N16_6 (fun i => limb i u1) := by rw [hwK7]; exact b16_6.set4 (fun i => limb i u1)
                  rw [← hwK7]
                  clear hwK7
                  refine wpZ_one (i := 19) (by kernel_rfl) rfl (fun K hK => ?_)
                  have cS := b17_7.cell; have fS := b17_7.frozen
                  go_simp
                  refine hK.out _ _ (fun _ => bSet4 (hSK7) lN17_4 _ _ _ _) ?_
                  clear hK K cS fS
                  obtain ⟨wK8, hwK8⟩ : ∃ x : World, x = ((((wK7.setCell ⟨N17_4, 0, none⟩ (.int .u64 ((limb 0 u2 : Nat) : Int))).setCell ⟨N17_4, 1, none⟩ (.int .u64 ((limb 1 u2 : Nat) : Int))).setCell ⟨N17_4, 2, none⟩ (.int .u64 ((limb 2 u2 : Nat) : Int))).setCell ⟨N17_4, 3, none⟩ (.int .u64 ((limb 3 u2 : Nat) : Int))) := ⟨_, rfl⟩
                  have hSK8 : Below w4.heap.size w4 wK8 := by rw [hwK8]; exact bSet4 (hSK7) lN17_4 _ _ _ _
                  have b17_8 : Blk wK8 24 N17_4 (fun i => limb i u2) := by rw [hwK8]; exact b17_7.set4 (fun i => limb i u2)
                  have b16_8 : Blk wK8 24 N16_6 (fun i => limb i u1) := by rw [hwK8]; exact b16_7.other4 (by omega) _ _ _ _
                  rw [← hwK8]
                  clear hwK8
                  refine wpZ_done (by kernel_rfl) ?_ _
                  go_wp2_with fail
                  go_meet
                  exact ⟨_, _, rfl, rfl, hSK8, b16_8, b17_8⟩
                · go_simp
                  have hSK5' : Below w4.heap.size w4 (wK4.alloc (.cells #[.int .u64 0, .int .u64 0, .int .u64 0, .int .u64 0] 24)) := bAlloc (hSK4) _
                  refine hK.out _ _ (fun _ => hSK5') ?_
                  clear hK K
                  obtain ⟨N16_5, hN16_5⟩ : ∃ N, N = wK4.heap.size := ⟨_, rfl⟩
                  obtain ⟨wK5, hwK5⟩ : ∃ x : World, x = wK4.alloc (.cells #[.int .u64 0, .int .u64 0, .int .u64 0, .int .u64 0] 24) := ⟨_, rfl⟩
                  have hSK5 : Below w4.heap.size w4 wK5 := by rw [hwK5]; exact hSK5'
                  have b16_5 : Blk wK5 24 N16_5 (fun _ => 0) := by rw [hwK5, hN16_5]; exact Blk.new wK4 24 (fun _ => 0)
                  have lN16_5 : w4.heap.size ≤ N16_5 := by rw [hN16_5]; exact (hSK4).size
                  have b17_5 : Blk wK5 24 N17_4 (fun _ => 0) := by rw [hwK5]; exact b17_4.alloc _
                  have neN17_4_N16_5 : N17_4 ≠ N16_5 := by have := b17_4.lt; omega
                  rw [← hwK5, ← hN16_5]
                  clear hwK5 hSK5' hN16_5
                  refine wpZ_one (i := 15) (by kernel_rfl) rfl (fun K hK => ?_)
                  go_simp
                  refine (C5.out wK5 (HGa.out.below (hSK5))).mono ?_
                  rintro e wK6 ⟨rfl, hbK6⟩
                  have hSK6 : Below w4.heap.size w4 wK6 := bStep (hSK5) hbK6
                  go_wp2_with fail
                  refine hK.out _ _ (fun _ => hSK6) ?_
                  clear hK K
                  have b17_6 := b17_5.belowAll hbK6
                  have b16_6 := b16_5.belowAll hbK6
                  refine wpZ_one (i := 18) (by kernel_rfl) rfl (fun K hK => ?_)
                  have cS := b16_6.cell; have fS := b16_6.frozen
                  go_simp
                  refine hK.out _ _ (fun _ => bSet4 (hSK6) lN16_5 _ _ _ _) ?_
                  clear hK K cS fS
                  obtain ⟨wK7, hwK7⟩ : ∃ x : World, x = ((((wK6.setCell ⟨N16_5, 0, none⟩ (.int .u64 ((limb 0 u1 : Nat) : Int))).setCell ⟨N16_5, 1, none⟩ (.int .u64 ((limb 1 u1 : Nat) : Int))).setCell ⟨N16_5, 2, none⟩ (.int .u64 ((limb 2 u1 : Nat) : Int))).setCell ⟨N16_5, 3, none⟩ (.int .u64 ((limb 3 u1 : Nat) : Int))) := ⟨_, rfl⟩
                  have hSK7 : Below w4.heap.size w4 wK7 := by rw [hwK7]; exact bSet4 (hSK6) lN16_5 _ _ _ _
                  have b17_7 : Blk wK7 24 N17_4 (fun _ => 0) := by rw [hwK7]; exact b17_6.other4 (by omega) _ _ _ _
                  have b16_7 : Blk wK7 24 N16_5 (fun i => limb i u1) := by rw [hwK7]; exact b16_6.set4 (fun i => limb i u1)
                  rw [← hwK7]
                  clear hwK7
                  refine wpZ_one (i := 19) (by kernel_rfl) rfl (fun K hK => ?_)
                  have cS := b17_7.cell; have fS := b17_7.frozen
                  go_simp
                  refine hK.out _ _ (fun _ => bSet4 (hSK7) lN17_4 _ _ _ _) ?_
                  clear hK K cS fS
                  obtain ⟨wK8, hwK8⟩ : ∃ x : World, x = ((((wK7.setCell ⟨N17_4, 0, none⟩ (.int .u64 ((limb 0 u2 : Nat) : Int))).setCell ⟨N17_4, 1, none⟩ (.int .u64 ((limb 1 u2 : Nat) : Int))).setCell ⟨N17_4, 2, none⟩ (.int .u64 ((limb 2 u2 : Nat) : Int))).setCell ⟨N17_4, 3, none⟩ (.int .u64 ((limb 3 u2 : Nat) : Int))) := ⟨_, rfl⟩
                  have hSK8 : Below w4.heap.size w4 wK8 := by rw [hwK8]; exact bSet4 (hSK7) lN17_4 _ _ _ _
                  have b17_8 : Blk wK8 24 N17_4 (fun i => limb i u2) := by rw [hwK8]; exact b17_7.set4 (fun i => limb i u2)
                  have b16_8 : Blk wK8 24 N16_5 (fun i => limb i u1) := by rw [hwK8]; exact b16_7.other4 (by omega) _ _ _ _
                  rw [← hwK8]
                  clear hwK8
                  refine wpZ_done (by kernel_rfl) ?_ _
                  go_wp2_with fail
                  go_meet
                  exact ⟨_, _, rfl, rfl, hSK8, b16_8, b17_8⟩
            · go_simp
              have hSK3' : Below w4.heap.size w4 (wK2.alloc (.cells #[.int .u64 0, .int .u64 0, .int .u64 0, .int .u64 0] 24)) := bAlloc (hSK2) _
              refine hK.out _ _ (fun _ => hSK3') ?_
              clear hK K
              obtain ⟨N16_3, hN16_3⟩ : ∃ N, N = wK2.heap.size := ⟨_, rfl⟩
              obtain ⟨wK3, hwK3⟩ : ∃ x : World, x = wK2.alloc (.cells #[.int .u64 0, .int .u64 0, .int .u64 0, .int .u64 0] 24) := ⟨_, rfl⟩
              have hSK3 : Below w4.heap.size w4 wK3 := by rw [hwK3]; exact hSK3'
              have b16_3 : Blk wK3 24 N16_3 (fun _ => 0) := by rw [hwK3, hN16_3]; exact Blk.new wK2 24 (fun _ => 0)
              have lN16_3 : w4.heap.size ≤ N16_3 := by rw [hN16_3]; exact (hSK2).size
              rw [← hwK3, ← hN16_3]
              clear hwK3 hSK3' hN16_3
              refine wpZ_two (i := 14) (j := 17) (by kernel_rfl) rfl rfl (fun K hK => ?_) (fun K hK => ?_) 
              · go_simp
                refine (C3.out wK3 (HGa.out.below (hSK3)) (rk.belowAll (hSK3))).mono ?_
                rintro e wK4 ⟨rfl, hbK4⟩
                have hSK4 : Below w4.heap.size w4 wK4 := bStep (hSK3) hbK4
                go_wp2_with fail
                refine hK.out _ _ (fun _ => hSK4) ?_
                clear hK K
                have b16_4 := b16_3.belowAll hbK4
                refine wpZ_two (i := 15) (j := 17) (by kernel_rfl) rfl rfl (fun K hK => ?_) (fun K hK => ?_) 
                · go_simp
                  refine (C5.out wK4 (HGa.out.below (hSK4))).mono ?_
                  rintro e wK5 ⟨rfl, hbK5⟩
                  have hSK5 : Below w4.heap.size w4 wK5 := bStep (hSK4) hbK5
                  go_wp2_with fail
                  refine hK.out _ _ (fun _ => hSK5) ?_
                  clear hK K
                  have b16_5 := b16_4.belowAll hbK5
                  refine wpZ_one (i := 17) (by kernel_rfl) rfl (fun K hK => ?_)
                  go_simp
                  have hSK6' : Below w4.heap.size w4 (wK5.alloc (.cells #[.int .u64 0, .int .u64 0, .int .u64 0, .int .u64 0] 24)) := bAlloc (hSK5) _
                  refine hK.out _ _ (fun _ => hSK6') ?_
                  clear hK K
                  obtain ⟨N17_6, hN17_6⟩ : ∃ N, N = wK5.heap.size := ⟨_, rfl⟩
                  obtain ⟨wK6, hwK6⟩ : ∃ x : World, x = wK5.alloc (.cells #[.int .u64 0, .int .u64 0, .int .u64 0, .int .u64 0] 24) := ⟨_, rfl⟩
                  have hSK6 : Below w4.heap.size w4 wK6 := by rw [hwK6]; exact hSK6'
                  have b17_6 : Blk wK6 24 N17_6 (fun _ => 0) := by rw [hwK6, hN17_6]; exact Blk.new wK5 24 (fun _ => 0)
                  have lN17_6 : w4.heap.size ≤ N17_6 := by rw [hN17_6]; exact (hSK5).size
                  have b16_6 : Blk wK6 24 N16_3 (fun _ => 0) := by rw [hwK6]; exact b16_5.alloc _
                  have neN16_3_N17_6 : N16_3 ≠ N17_6 := by have := b16_5.lt; omega
                  rw [← hwK6, ← hN17_6]
                  clear hwK6 hSK6' hN17_6
                  refine wpZ_one (i := 18) (by kernel_rfl) rfl (fun K hK => ?_)
                  have cS := b16_6.cell; have fS := b16_6.frozen
                  go_simp
                  refine hK.out _ _ (fun _ => bSet4 (hSK6) lN16_3 _ _ _ _) ?_
                  clear hK K cS fS
                  obtain ⟨wK7, hwK7⟩ : ∃ x : World, x = ((((wK6.setCell ⟨N16_3, 0, none⟩ (.int .u64 ((limb 0 u1 : Nat) : Int))).setCell ⟨N16_3, 1, none⟩ (.int .u64 ((limb 1 u1 : Nat) : Int))).setCell ⟨N16_3, 2, none⟩ (.int .u64 ((limb 2 u1 : Nat) : Int))).setCell ⟨N16_3, 3, none⟩ (.int .u64 ((limb 3 u1 : Nat) : Int))) := ⟨_, rfl⟩
                  have hSK7 : Below w4.heap.size w4 wK7 := by rw [hwK7]; exact bSet4 (hSK6) lN16_3 _ _ _ _
                  have b16_7 : Blk wK7 24 N16_3 (fun i => limb i u1) := by rw [hwK7]; exact b16_6.set4 (fun i => limb i u1)
                  have b17_7 : Blk wK7 24 N17_6 (fun _ => 0) := by rw [hwK7]; exact b17_6.other4 (by omega) _ _ _ _
                  rw [← hwK7]
                  clear hwK7
                  refine wpZ_one (i := 19) (by kernel_rfl) rfl (fun K hK => ?_)
                  have cS := b17_7.cell; have fS := b17_7.frozen
                  go_simp
                  refine hK.out _ _ (fun _ => bSet4 (hSK7) lN17_6 _ _ _ _) ?_
                  clear hK K cS fS
                  obtain ⟨wK8, hwK8⟩ : ∃ x : World, x = ((((wK7.setCell ⟨N17_6, 0, none⟩ (.int .u64 ((limb 0 u2 : Nat) : Int))).setCell ⟨N17_6, 1, none⟩ (.int .u64 ((limb 1 u2 : Nat) : Int))).setCell ⟨N17_6, 2, none⟩ (.int .u64 ((limb 2 u2 : Nat) : Int))).setCell ⟨N17_6, 3, none⟩ (.int .u64 ((limb 3 u2 : Nat) : Int))) := ⟨_, rfl⟩
                  have hSK8 : Below w4.heap.size w4 wK8 := by rw [hwK8]; exact bSet4 (hSK7) lN17_6 _ _ _ _
                  have b16_8 : Blk wK8 24 N16_3 (fun i => limb i u1) := by rw [hwK8]; exact b16_7.other4 (by omega) _ _ _ _
                  have b17_8 : Blk wK8 24 N17_6 (fun i => limb i u2) := by rw [hwK8]; exact b17_7.set4 (fun i => limb i u2)
                  rw [← hwK8]
                  clear hwK8
                  refine wpZ_done (by kernel_rfl) ?_ _
                  go_wp2_with fail
                  go_meet
                  exact ⟨_, _, rfl, rfl, hSK8, b16_8, b17_8⟩
                · go_simp
                  have hSK5' : Below w4.heap.size w4 (wK4.alloc (.cells #[.int .u64 0, .int .u64 0, .int .u64 0, .int .u64 0] 24)) := bAlloc (hSK4) _
                  refine hK.out _ _ (fun _ => hSK5') ?_
                  clear hK K
                  obtain ⟨N17_5, hN17_5⟩ : ∃ N, N = wK4.heap.size := ⟨_, rfl⟩
                  obtain ⟨wK5, hwK5⟩ : ∃ x : World, x = wK4.alloc (.cells #[.int .u64 0, .int .u64 0, .int .u64 0, .int .u64 0] 24) := ⟨_, rfl⟩
                  have hSK5 : Below w4.heap.size w4 wK5 := by rw [hwK5]; exact hSK5'
                  have b17_5 : Blk wK5 24 N17_5 (fun _ => 0) := by rw [hwK5, hN17_5]; exact Blk.new wK4 24 (fun _ => 0)
                  have lN17_5 : w4.heap.size ≤ N17_5 := by rw [hN17_5]; exact (hSK4).size
                  have b16_5 : Blk wK5 24 N16_3 (fun _ => 0) := by rw [hwK5]; exact b16_4.alloc _
                  have neN16_3_N17_5 : N16_3 ≠ N17_5 := by have := b16_4.lt; omega
                  rw [← hwK5, ← hN17_5]
                  clear hwK5 hSK5' hN17_5
                  refine wpZ_one (i := 15) (by kernel_rfl) rfl (fun K hK => ?_)
                  go_simp
                  refine (C5.out wK5 (HGa.out.below (hSK5))).mono ?_
                  rintro e wK6 ⟨rfl, hbK6⟩
                  have hSK6 : Below w4.heap.size w4 wK6 := bStep (hSK5) hbK6
                  go_wp2_with fail
                  refine hK.out _ _ (fun _ => hSK6) ?_
                  clear hK K
                  have b16_6 := b16_5.belowAll hbK6
                  have b17_6 := b17_5.belowAll hbK6
                  refine wpZ_one (i := 18) (by kernel_rfl) rfl (fun K hK => ?_)
                  have cS := b16_6.cell; have fS := b16_6.frozen
                  go_simp
                  refine hK.out _ _ (fun _ => bSet4 (hSK6) lN16_3 _ _ _ _) ?_
                  clear hK K cS fS
                  obtain ⟨wK7, hwK7⟩ : ∃ x : World, x = ((((wK6.setCell ⟨N16_3, 0, none⟩ (.int .u64 ((limb 0 u1 : Nat) : Int))).setCell ⟨N16_3, 1, none⟩ (.int .u64 ((limb 1 u1 : Nat) : Int))).setCell ⟨N16_3, 2, none⟩ (.int .u64 ((limb 2 u1 : Nat) : Int))).setCell ⟨N16_3, 3, none⟩ (.int .u64 ((limb 3 u1 : Nat) : Int))) := ⟨_, rfl⟩
                  have hSK7 : Below w4.heap.size w4 wK7 := by rw [hwK7]; exact bSet4 (hSK6) lN16_3 _ _ _ _
                  have b16_7 : Blk wK7 24 N16_3 (fun i => limb i u1) := by rw [hwK7]; exact b16_6.set4 (fun i => limb i u1)
                  have b17_7 : Blk wK7 24 N17_5 (fun _ => 0) := by rw [hwK7]; exact b17_6.other4 (by omega) _ _ _ _
                  rw [← hwK7]
                  clear hwK7
                  refine wpZ_one (i := 19) (by kernel_rfl) rfl (fun K hK => ?_)
                  have cS := b17_7.cell; have fS := b17_7.frozen
                  go_simp
                  refine hK.out _ _ (fun _ => bSet4 (hSK7) lN17_5 _ _ _ _) ?_
                  clear hK K cS fS
                  obtain ⟨wK8, hwK8⟩ : ∃ x : World, x = ((((wK7.setCell ⟨N17_5, 0, none⟩ (.int .u64 ((limb 0 u2 : Nat) : Int))).setCell ⟨N17_5, 1, none⟩ (.int .u64 ((limb 1 u2 : Nat) : Int))).setCell ⟨N17_5, 2, none⟩ (.int .u64 ((limb 2 u2 : Nat) : Int))).setCell ⟨N17_5, 3, none⟩ (.int .u64 ((limb 3 u2 : Nat) : Int))) := ⟨_, rfl⟩
                  have hSK8 : Below w4.heap.size w4 wK8 := by rw [hwK8]; exact bSet4 (hSK7) lN17_5 _ _ _ _
                  have b16_8 : Blk wK8 24 N16_3 (fun i => limb i u1) := by rw [hwK8]; exact b16_7.other4 (by omega) _ _ _ _
                  have b17_8 : Blk wK8 24 N17_5 (fun i => limb i u2) := by rw [hwK8]; exact b17_7.set4 (fun i => limb i u2)
                  rw [← hwK8]
                  clear hwK8
                  refine wpZ_done (by kernel_rfl) ?_ _
                  go_wp2_with fail
                  go_meet
                  exact ⟨_, _, rfl, rfl, hSK8, b16_8, b17_8⟩
              · go_simp
                have hSK4' : Below w4.heap.size w4 (wK3.alloc (.cells #[.int .u64 0, .int .u64 0, .int .u64 0, .int .u64 0] 24)) := bAlloc (hSK3) _
                refine hK.out _ _ (fun _ => hSK4') ?_
                clear hK K
                obtain ⟨N17_4, hN17_4⟩ : ∃ N, N = wK3.heap.size := ⟨_, rfl⟩
                obtain ⟨wK4, hwK4⟩ : ∃ x : World, x = wK3.alloc (.cells #[.int .u64 0, .int .u64 0, .int .u64 0, .int .u64 0] 24) := ⟨_, rfl⟩
                have hSK4 : Below w4.heap.size w4 wK4 := by rw [hwK4]; exact hSK4'
                have b17_4 : Blk wK4 24 N17_4 (fun _ => 0) := by rw [hwK4, hN17_4]; exact Blk.new wK3 24 (fun _ => 0)
                have lN17_4 : w4.heap.size ≤ N17_4 := by rw [hN17_4]; exact (hSK3).size
                have b16_4 : Blk wK4 24 N16_3 (fun _ => 0) := by rw [hwK4]; exact b16_3.alloc _
                have neN16_3_N17_4 : N16_3 ≠ N17_4 := by have := b16_3.lt; omega
                rw [← hwK4, ← hN17_4]
                clear hwK4 hSK4' hN17_4
                refine wpZ_one (i := 14) (by kernel_rfl) rfl (fun K hK => ?_)
                go_simp
                refine (C3.out wK4 (HGa.out.below (hSK4)) (rk.belowAll (hSK4))).mono ?_
                rintro e wK5 ⟨rfl, hbK5⟩
                have hSK5 : Below w4.heap.size w4 wK5 := bStep (hSK4) hbK5
                go_wp2_with fail
                refine hK.out _ _ (fun _ => hSK5) ?_
                clear hK K
                have b16_5 := b16_4.belowAll hbK5
                have b17_5 := b17_4.belowAll hbK5
                refine wpZ_one (i := 15) (by kernel_rfl) rfl (fun K hK => ?_)
                go_simp
                refine (C5.out wK5 (HGa.out.below (hSK5))).mono ?_
                rintro e wK6 ⟨rfl, hbK6⟩
                have hSK6 : Below w4.heap.size w4 wK6 := bStep (hSK5) hbK6
                go_wp2_with fail
                refine hK.out _ _ (fun _ => hSK6) ?_
                clear hK K
                have b16_6 := b16_5.belowAll hbK6
                have b17_6 := b17_5.belowAll hbK6
                refine wpZ_one (i := 18) (by kernel_rfl) rfl (fun K hK => ?_)
                have cS := b16_6.cell; have fS := b16_6.frozen
                go_simp
                refine hK.out _ _ (fun _ => bSet4 (hSK6) lN16_3 _ _ _ _) ?_
                clear hK K cS fS
                obtain ⟨wK7, hwK7⟩ : ∃ x : World, x = ((((wK6.setCell ⟨N16_3, 0, none⟩ (.int .u64 ((limb 0 u1 : Nat) : Int))).setCell ⟨N16_3, 1, none⟩ (.int .u64 ((limb 1 u1 : Nat) : Int))).setCell ⟨N16_3, 2, none⟩ (.int .u64 ((limb 2 u1 : Nat) : Int))).setCell ⟨N16_3, 3, none⟩ (.int .u64 ((limb 3 u1 : Nat) : Int))) := ⟨_, rfl⟩
                have hSK7 : Below w4.heap.size w4 wK7 := by rw [hwK7]; exact bSet4 (hSK6) lN16_3 _ _ _ _
                have b16_7 : Blk wK7 24 N16_3 (fun i => limb i u1) := by rw [hwK7]; exact b16_6.set4 (fun i => limb i u1)
                have b17_7 : Blk wK7 24 N17_4 (fun _ => 0) := by rw [hwK7]; exact b17_6.other4 (by omega) _ _ _ _
                rw [← hwK7]
                clear hwK7
                refine wpZ_one (i := 19) (by kernel_rfl) rfl (fun K hK => ?_)
                have cS := b17_7.cell; have fS := b17_7.frozen
                go_simp
                refine hK.out _ _ (fun _ => bSet4 (hSK7) lN17_4 _ _ _ _) ?_
                clear hK K cS fS
                obtain ⟨wK8, hwK8⟩ : ∃ x : World, x = ((((wK7.setCell ⟨N17_4, 0, none⟩ (.int .u64 ((limb 0 u2 : Nat) : Int))).setCell ⟨N17_4, 1, none⟩ (.int .u64 ((limb 1 u2 : Nat) : Int))).setCell ⟨N17_4, 2, none⟩ (.int .u64 ((limb 2 u2 : Nat) : Int))).setCell ⟨N17_4, 3, none⟩ (.int .u64 ((limb 3 u2 : Nat) : Int))) := ⟨_, rfl⟩
                have hSK8 : Below w4.heap.size w4 wK8 := by rw [hwK8]; exact bSet4 (hSK7) lN17_4 _ _ _ _
                have b16_8 : Blk wK8 24 N16_3 (fun i => limb i u1) := by rw [hwK8]; exact b16_7.other4 (by omega) _ _ _ _
                have b17_8 : Blk wK8 24 N17_4 (fun i => limb i u2) := by rw [hwK8]; exact b17_7.set4 (fun i => limb i u2)
                rw [← hwK8]
                clear hwK8
                refine wpZ_done (by kernel_rfl) ?_ _
                go_wp2_with fail
                go_meet
                exact ⟨_, _, rfl, rfl, hSK8, b16_8, b17_8⟩
            · go_simp
              have hSK3' : Below w4.heap.size w4 (wK2.alloc (.cells #[.int .u64 0, .int .u64 0, .int .u64 0, .int .u64 0] 24)) := bAlloc (hSK2) _
              refine hK.out _ _ (fun _ => hSK3') ?_
              clear hK K
              obtain ⟨N17_3, hN17_3⟩ : ∃ N, N = wK2.heap.size := ⟨_, rfl⟩
              obtain ⟨wK3, hwK3⟩ : ∃ x : World, x = wK2.alloc (.cells #[.int .u64 0, .int .u64 0, .int .u64 0, .int .u64 0] 24) := ⟨_, rfl⟩
              have hSK3 : Below w4.heap.size w4 wK3 := by rw [hwK3]; exact hSK3'
              have b17_3 : Blk wK3 24 N17_3 (fun _ => 0) := by rw [hwK3, hN17_3]; exact Blk.new wK2 24 (fun _ => 0)
              have lN17_3 : w4.heap.size ≤ N17_3 := by rw [hN17_3]; exact (hSK2).size
              rw [← hwK3, ← hN17_3]
              clear hwK3 hSK3' hN17_3
              refine wpZ_two (i := 14) (j := 16) (by kernel_rfl) rfl rfl (fun K hK => ?_) (fun K hK => ?_) 
              · go_simp
                refine (C3.out wK3 (HGa.out.below (hSK3)) (rk.belowAll (hSK3))).mono ?_
                rintro e wK4 ⟨rfl, hbK4⟩
                have hSK4 : Below w4.heap.size w4 wK4 := bStep (hSK3) hbK4
                go_wp2_with fail
                refine hK.out _ _ (fun _ => hSK4) ?_
                clear hK K
                have b17_4 := b17_3.belowAll hbK4
                refine wpZ_two (i := 15) (j := 16) (by kernel_rfl) rfl rfl (fun K hK => ?_) (fun K hK => ?_) 
                · go_simp
                  refine (C5.out wK4 (HGa.out.below (hSK4))).mono ?_
                  rintro e wK5 ⟨rfl, hbK5⟩
                  have hSK5 : Below w4.heap.size w4 wK5 := bStep (hSK4) hbK5
                  go_wp2_with fail
                  refine hK.out _ _ (fun _ => hSK5) ?_
                  clear hK K
                  have b17_5 := b17_4.belowAll hbK5
                  refine wpZ_one (i := 16) (by kernel_rfl) rfl (fun K hK => ?_)
                  go_simp
                  have hSK6' : Below w4.heap.size w4 (wK5.alloc (.cells #[.int .u64 0, .int .u64 0, .int .u64 0, .int .u64 0] 24)) := bAlloc (hSK5) _
                  refine hK.out _ _ (fun _ => hSK6') ?_
                  clear hK K
                  obtain ⟨N16_6, hN16_6⟩ : ∃ N, N = wK5.heap.size := ⟨_, rfl⟩
                  obtain ⟨wK6, hwK6⟩ : ∃ x : World, x = wK5.alloc (.cells #[.int .u64 0, .int .u64 0, .int .u64 0, .int .u64 0] 24) := ⟨_, rfl⟩
                  have hSK6 : Below w4.heap.size w4 wK6 := by rw [hwK6]; exact hSK6'
                  have b16_6 : Blk wK6 24 N16_6 (fun _ => 0) := by rw [hwK6, hN16_6]; exact Blk.new wK5 24 (fun _ => 0)
                  have lN16_6 : w4.heap.size ≤ N16_6 := by rw [hN16_6]; exact (hSK5).size
                  have b17_6 : Blk wK6 24 N17_3 (fun _ => 0) := by rw [hwK6]; exact b17_5.alloc _
                  have neN17_3_N16_6 : N17_3 ≠ N16_6 := by have := b17_5.lt; omega
                  rw [← hwK6, ← hN16_6]
                  clear hwK6 hSK6' hN16_6
                  refine wpZ_one (i := 18) (by kernel_rfl) rfl (fun K hK => ?_)
                  have cS := b16_6.cell; have fS := b16_6.frozen
                  go_simp
                  refine hK.out _ _ (fun _ => bSet4 (hSK6) lN16_6 _ _ _ _) ?_
                  clear hK K cS fS
                  obtain ⟨wK7, hwK7⟩ : ∃ x : World, x = ((((wK6.setCell ⟨N16_6, 0, none⟩ (.int .u64 ((limb 0 u1 : Nat) : Int))).setCell ⟨N16_6, 1, none⟩ (.int .u64 ((limb 1 u1 : Nat) : Int))).setCell ⟨N16_6, 2, none⟩ (.int .u64 ((limb 2 u1 : Nat) : Int))).setCell ⟨N16_6, 3, none⟩ (.int .u64 ((limb 3 u1 : Nat) : Int))) := ⟨_, rfl⟩
                  have hSK7 : Below w4.heap.size w4 wK7 := by rw [hwK7]; exact bSet4 (hSK6) lN16_6 _ _ _ _
                  have b17_7 : Blk wK7 24 N17_3 (fun _ => 0) := by rw [hwK7]; exact b17_6.other4 (by omega) _ _ _ _
                  have b16_7 : Blk wK7 24 N16_6 (fun i => limb i u1) := by rw [hwK7]; exact b16_6.set4 (fun i => limb i u1)
                  rw [← hwK7]
                  clear hwK7
                  refine wpZ_one (i := 19) (by kernel_rfl) rfl (fun K hK => ?_)
                  have cS := b17_7.cell; have fS := b17_7.frozen
                  go_simp
                  refine hK.out _ _ (fun _ => bSet4 (hSK7) lN17_3 _ _ _ _) ?_
                  clear hK K cS fS
                  obtain ⟨wK8, hwK8⟩ : ∃ x : World, x = ((((wK7.setCell ⟨N17_3, 0, none⟩ (.int .u64 ((limb 0 u2 : Nat) : Int))).setCell ⟨N17_3, 1, none⟩ (.int .u64 ((limb 1 u2 : Nat) : Int))).setCell ⟨N17_3, 2, none⟩ (.int .u64 ((limb 2 u2 : Nat) : Int))).setCell ⟨N17_3, 3, none⟩ (.int .u64 ((limb 3 u2 : Nat) : Int))) := ⟨_, rfl⟩
                  have hSK8 : Below w4.heap.size w4 wK8 := by rw [hwK8]; exact bSet4 (hSK7) lN17_3 _ _ _ _
                  have b17_8 : Blk wK8 24 N17_3 (fun i => limb i u2) := by rw [hwK8]; exact b17_7.set4 (fun i => limb i u2)
                  have b16_8 : Blk wK8 24 N16_6 (fun i => limb i u1) := by rw [hwK8]; exact b16_7.other4 (by omega) _ _ _ _
                  rw [← hwK8]
                  clear hwK8
                  refine wpZ_done (by kernel_rfl) ?_ _
                  go_wp2_with fail
                  go_meet
                  exact ⟨_, _, rfl, rfl, hSK8, b16_8, b17_8⟩
                · go_simp
                  have hSK5' : Below w4.heap.size w4 (wK4.alloc (.cells #[.int .u64 0, .int .u64 0, .int .u64 0, .int .u64 0] 24)) := bAlloc (hSK4) _
                  refine hK.out _ _ (fun _ => hSK5') ?_
                  clear hK K
                  obtain ⟨N16_5, hN16_5⟩ : ∃ N, N = wK4.heap.size := ⟨_, rfl⟩
                  obtain ⟨wK5, hwK5⟩ : ∃ x : World, x = wK4.alloc (.cells #[.int .u64 0, .int .u64 0, .int .u64 0, .int .u64 0] 24) := ⟨_, rfl⟩
                  have hSK5 : Below w4.heap.size w4 wK5 := by rw [hwK5]; exact hSK5'
                  have b16_5 : Blk wK5 24 N16_5 (fun _ => 0) := by rw [hwK5, hN16_5]; exact Blk.new wK4 24 (fun _ => 0)
                  have lN16_5 : w4.heap.size ≤ N16_5 := by rw [hN16_5]; exact (hSK4).size
                  have b17_5 : Blk wK5 24 N17_3 (fun _ => 0) := by rw [hwK5]; exact b17_4.alloc _
                  have neN17_3_N16_5 : N17_3 ≠ N16_5 := by have := b17_4.lt; omega
                  rw [← hwK5, ← hN16_5]
                  clear hwK5 hSK5' hN16_5
                  refine wpZ_one (i := 15) (by kernel_rfl) rfl (fun K hK => ?_)
                  go_simp
                  refine (C5.out wK5 (HGa.out.below (hSK5))).mono ?_
                  rintro e wK6 ⟨rfl, hbK6⟩
                  have hSK6 : Below w4.heap.size w4 wK6 := bStep (hSK5) hbK6
                  go_wp2_with fail
                  refine hK.out _ _ (fun _ => hSK6) ?_
                  clear hK K
                  have b17_6 := b17_5.belowAll hbK6
                  have b16_6 := b16_5.belowAll hbK6
                  refine wpZ_one (i := 18) (by kernel_rfl) rfl (fun K hK => ?_)
                  have cS := b16_6.cell; have fS := b16_6.frozen
                  go_simp
                  refine hK.out _ _ (fun _ => bSet4 (hSK6) lN16_5 _ _ _ _) ?_
                  clear hK K cS fS
                  obtain ⟨wK7, hwK7⟩ : ∃ x : World, x = ((((wK6.setCell ⟨N16_5, 0, none⟩ (.int .u64 ((limb 0 u1 : Nat) : Int))).setCell ⟨N16_5, 1, none⟩ (.int .u64 ((limb 1 u1 : Nat) : Int))).setCell ⟨N16_5, 2, none⟩ (.int .u64 ((limb 2 u1 : Nat) : Int))).setCell ⟨N16_5, 3, none⟩ (.int .u64 ((limb 3 u1 : Nat) : Int))) := ⟨_, rfl⟩
                  have hSK7 : Below w4.heap.size w4 wK7 := by rw [hwK7]; exact bSet4 (hSK6) lN16_5 _ _ _ _
                  have b17_7 : Blk wK7 24 N17_3 (fun _ => 0) := by rw [hwK7]; exact b17_6.other4 (by omega) _ _ _ _
                  have b16_7 : Blk wK7 24 N16_5 (fun i => limb i u1) := by rw [hwK7]; exact b16_6.set4 (fun i => limb i u1)
                  rw [← hwK7]
                  clear hwK7
                  refine wpZ_one (i := 19) (by kernel_rfl) rfl (fun K hK => ?_)
                  have cS := b17_7.cell; have fS := b17_7.frozen
                  go_simp
                  refine hK.out _ _ (fun _ => bSet4 (hSK7) lN17_3 _ _ _ _) ?_
                  clear hK K cS fS
                  obtain ⟨wK8, hwK8⟩ : ∃ x : World, x = ((((wK7.setCell ⟨N17_3, 0, none⟩ (.int .u64 ((limb 0 u2 : Nat) : Int))).setCell ⟨N17_3, 1, none⟩ (.int .u64 ((limb 1 u2 : Nat) : Int))).setCell ⟨N17_3, 2, none⟩ (.int .u64 ((limb 2 u2 : Nat) : Int))).setCell ⟨N17_3, 3, none⟩ (.int .u64 ((limb 3 u2 : Nat) : Int))) := ⟨_, rfl⟩
                  have hSK8 : Below w4.heap.size w4 wK8 := by rw [hwK8]; exact bSet4 (hSK7) lN17_3 _ _ _ _
                  have b17_8 : Blk wK8 24 N17_3 (fun i => limb i u2) := by rw [hwK8]; exact b17_7.set4 (fun i => limb i u2)
                  have b16_8 : Blk wK8 24 N16_5 (fun i => limb i u1) := by rw [hwK8]; exact b16_7.other4 (by omega) _ _ _ _
                  rw [← hwK8]
                  clear hwK8
                  refine wpZ_done (by kernel_rfl) ?_ _
                  go_wp2_with fail
                  go_meet
                  exact ⟨_, _, rfl, rfl, hSK8, b16_8, b17_8⟩
              · go_simp
                have hSK4' : Below w4.heap.size w4 (wK3.alloc (.cells #[.int .u64 0, .int .u64 0, .int .u64 0, .int .u64 0] 24)) := bAlloc (hSK3) _
                refine hK.out _ _ (fun _ => hSK4') ?_
                clear hK K
                obtain ⟨N16_4, hN16_4⟩ : ∃ N, N = wK3.heap.size := ⟨_, rfl⟩
                obtain ⟨wK4, hwK4⟩ : ∃ x : World, x = wK3.alloc (.cells #[.int .u64 0, .int .u64 0, .int .u64 0, .int .u64 0] 24) := ⟨_, rfl⟩
                have hSK4 : Below w4.heap.size w4 wK4 := by rw [hwK4]; exact hSK4'
                have b16_4 : Blk wK4 24 N16_4 (fun _ => 0) := by rw [hwK4, hN16_4]; exact Blk.new wK3 24 (fun _ => 0)
                have lN16_4 : w4.heap.size ≤ N16_4 := by rw [hN16_4]; exact (hSK3).size
                have b17_4 : Blk wK4 24 N17_3 (fun _ => 0) := by rw [hwK4]; exact b17_3.alloc _
                have neN17_3_N16_4 : N17_3 ≠ N16_4 := by have := b17_3.lt; omega
                rw [← hwK4, ← hN16_4]
                clear hwK4 hSK4' hN16_4
                refine wpZ_one (i := 14) (by kernel_rfl) rfl (fun K hK => ?_)
                go_simp
                refine (C3.out wK4 (HGa.out.below (hSK4)) (rk.belowAll (hSK4))).mono ?_
                rintro e wK5 ⟨rfl, hbK5⟩
                have hSK5 : Below w4.heap.size w4 wK5 := bStep (hSK4) hbK5
                go_wp2_with fail
                refine hK.out _ _ (fun _ => hSK5) ?_
                clear hK K
                have b17_5 := b17_4.belowAll hbK5
                have b16_5 := b16_4.belowAll hbK5
                refine wpZ_one (i := 15) (by kernel_rfl) rfl (fun K hK => ?_)
                go_simp
                refine (C5.out wK5 (HGa.out.below (hSK5))).mono ?_
                rintro e wK6 ⟨rfl, hbK6⟩
                have hSK6 : Below w4.heap.size w4 wK6 := bStep (hSK5) hbK6
                go_wp2_with fail
                refine hK.out _ _ (fun _ => hSK6) ?_
                clear hK K
                have b17_6 := b17_5.belowAll hbK6
                have b16_6 := b16_5.belowAll hbK6
                refine wpZ_one (i := 18) (by kernel_rfl) rfl (fun K hK => ?_)
                have cS := b16_6.cell; have fS := b16_6.frozen
                go_simp
                refine hK.out _ _ (fun _ => bSet4 (hSK6) lN16_4 _ _ _ _) ?_
                clear hK K cS fS
                obtain ⟨wK7, hwK7⟩ : ∃ x : World, x = ((((wK6.setCell ⟨N16_4, 0, none⟩ (.int .u64 ((limb 0 u1 : Nat) : Int))).setCell ⟨N16_4, 1, none⟩ (.int .u64 ((limb 1 u1 : Nat) : Int))).setCell ⟨N16_4, 2, none⟩ (.int .u64 ((limb 2 u1 : Nat) : Int))).setCell ⟨N16_4, 3, none⟩ (.int .u64 ((limb 3 u1 : Nat) : Int))) := ⟨_, rfl⟩
                have hSK7 : Below w4.heap.size w4 wK7 := by rw [hwK7]; exact bSet4 (hSK6) lN16_4 _ _ _ _
                have b17_7 : Blk wK7 24 N17_3 (fun _ => 0) := by rw [hwK7]; exact b17_6.other4 (by omega) _ _ _ _
                have b16_7 : Blk wK7 24 N16_4 (fun i => limb i u1) := by rw [hwK7]; exact b16_6.set4 (fun i => limb i u1)
                rw [← hwK7]
                clear hwK7
                refine wpZ_one (i := 19) (by kernel_rfl) rfl (fun K hK => ?_)
                have cS := b17_7.cell; have fS := b17_7.frozen
                go_simp
                refine hK.out _ _ (fun _ => bSet4 (hSK7) lN17_3 _ _ _ _) ?_
                clear hK K cS fS
                obtain ⟨wK8, hwK8⟩ : ∃ x : World, x = ((((wK7.setCell ⟨N17_3, 0, none⟩ (.int .u64 ((limb 0 u2 : Nat) : Int))).setCell ⟨N17_3, 1, none⟩ (.int .u64 ((limb 1 u2 : Nat) : Int))).setCell ⟨N17_3, 2, none⟩ (.int .u64 ((limb 2 u2 : Nat) : Int))).setCell ⟨N17_3, 3, none⟩ (.int .u64 ((limb 3 u2 : Nat) : Int))) := ⟨_, rfl⟩
                have hSK8 : Below w4.heap.size w4 wK8 := by rw [hwK8]; exact bSet4 (hSK7) lN17_3 _ _ _ _
                have b17_8 : Blk wK8 24 N17_3 (fun i => limb i u2) := by rw [hwK8]; exact b17_7.set4 (fun i => limb i u2)
                have b16_8 : Blk wK8 24 N16_4 (fun i => limb i u1) := by rw [hwK8]; exact b16_7.other4 (by omega) _ _ _ _
                rw [← hwK8]
                clear hwK8
                refine wpZ_done (by kernel_rfl) ?_ _
                go_wp2_with fail
                go_meet
                exact ⟨_, _, rfl, rfl, hSK8, b16_8, b17_8⟩
          · go_simp
            have hSK2' : Below w4.heap.size w4 (wK1.alloc (.cells #[.int .u64 0, .int .u64 0, .int .u64 0, .int .u64 0] 24)) := bAlloc (hSK1) _
            refine hK.out _ _ (fun _ => hSK2') ?_
            clear hK K
            obtain ⟨N16_2, hN16_2⟩ : ∃ N, N = wK1.heap.size := ⟨_, rfl⟩
            obtain ⟨wK2, hwK2⟩ : ∃ x : World, x = wK1.alloc (.cells #[.int .u64 0, .int .u64 0, .int .u64 0, .int .u64 0] 24) := ⟨_, rfl⟩
            have hSK2 : Below w4.heap.size w4 wK2 := by rw [hwK2]; exact hSK2'
            have b16_2 : Blk wK2 24 N16_2 (fun _ => 0) := by rw [hwK2, hN16_2]; exact Blk.new wK1 24 (fun _ => 0)
            have lN16_2 : w4.heap.size ≤ N16_2 := by rw [hN16_2]; exact (hSK1).size
            rw [← hwK2, ← hN16_2]
            clear hwK2 hSK2' hN16_2
            refine wpZ_two (i := 7) (j := 17) (by kernel_rfl) rfl rfl (fun K hK => ?_) (fun K hK => ?_) 
            · go_simp
              refine (C4.out wK2 (HGa.out.below (hSK2))).mono ?_
              rintro e wK3 ⟨rfl, hbK3⟩
              have hSK3 : Below w4.heap.size w4 wK3 := bStep (hSK2) hbK3
              go_wp2_with fail
              refine hK.out _ _ (fun _ => hSK3) ?_
              clear hK K
              have b16_3 := b16_2.belowAll hbK3
              refine wpZ_two (i := 14) (j := 17) (by kernel_rfl) rfl rfl (fun K hK => ?_) (fun K hK => ?_) 
              · go_simp
                refine (C3.out wK3 (HGa.out.below (hSK3)) (rk.belowAll (hSK3))).mono ?_
                rintro e wK4 ⟨rfl, hbK4⟩
                have hSK4 : Below w4.heap.size w4 wK4 := bStep (hSK3) hbK4
                go_wp2_with fail
                refine hK.out _ _ (fun _ => hSK4) ?_
                clear hK K
                have b16_4 := b16_3.belowAll hbK4
                refine wpZ_two (i := 15) (j := 17) (by kernel_rfl) rfl rfl (fun K hK => ?_) (fun K hK => ?_) 
                · go_simp
                  refine (C5.out wK4 (HGa.out.below (hSK4))).mono ?_
                  rintro e wK5 ⟨rfl, hbK5⟩
                  have hSK5 : Below w4.heap.size w4 wK5 := bStep (hSK4) hbK5
                  go_wp2_with fail
                  refine hK.out _ _ (fun _ => hSK5) ?_
                  clear hK K
                  have b16_5 := b16_4.belowAll hbK5
                  refine wpZ_one (i := 17) (by kernel_rfl) rfl (fun K hK => ?_)
                  go_simp
                  have hSK6' : Below w4.heap.size w4 (wK5.alloc (.cells #[.int .u64 0, .int .u64 0, .int .u64 0, .int .u64 0] 24)) := bAlloc (hSK5) _
                  refine hK.out _ _ (fun _ => hSK6') ?_
                  clear hK K
                  obtain ⟨N17_6, hN17_6⟩ : ∃ N, N = wK5.heap.size := ⟨_, rfl⟩
                  obtain ⟨wK6, hwK6⟩ : ∃ x : World, x = wK5.alloc (.cells #[.int .u64 0, .int .u64 0, .int .u64 0, .int .u64 0] 24) := ⟨_, rfl⟩
                  have hSK6 : Below w4.heap.size w4 wK6 := by rw [hwK6]; exact hSK6'
                  have b17_6 : Blk wK6 24 N17_6 (fun _ => 0) := by rw [hwK6, hN17_6]; exact Blk.new wK5 24 (fun _ => 0)
                  have lN17_6 : w4.heap.size ≤ N17_6 := by rw [hN17_6]; exact (hSK5).size
                  have b16_6 : Blk wK6 24 N16_2 (fun _ => 0) := by rw [hwK6]; exact b16_5.alloc _
                  have neN16_2_N17_6 : N16_2 ≠ N17_6 := by have := b16_5.lt; omega
                  rw [← hwK6, ← hN17_6]
                  clear hwK6 hSK6' hN17_6
                  refine wpZ_one (i := 18) (by kernel_rfl) rfl (fun K hK => ?_)
                  have cS := b16_6.cell; have fS := b16_6.frozen
                  go_simp
                  refine hK.out _ _ (fun _ => bSet4 (hSK6) lN16_2 _ _ _ _) ?_
                  clear hK K cS fS
                  obtain ⟨wK7, hwK7⟩ : ∃ x : World, x = ((((wK6.setCell ⟨N16_2, 0, none⟩ (.int .u64 ((limb 0 u1 : Nat) : Int))).setCell ⟨N16_2, 1, none⟩ (.int .u64 ((limb 1 u1 : Nat) : Int))).setCell ⟨N16_2, 2, none⟩ (.int .u64 ((limb 2 u1 : Nat) : Int))).setCell ⟨N16_2, 3, none⟩ (.int .u64 ((limb 3 u1 : Nat) : Int))) := ⟨_, rfl⟩
                  have hSK7 : Below w4.heap.size w4 wK7 := by rw [hwK7]; exact bSet4 (hSK6) lN16_2 _ _ _ _
                  have b16_7 : Blk wK7 24 N16_2 (fun i => limb i u1) := by rw [hwK7]; exact b16_6.set4 (fun i => limb i u1)
                  have b17_7 : Blk wK7 24 N17_6 (fun _ => 0) := by rw [hwK7]; exact b17_6.other4 (by omega) _ _ _ _
                  rw [← hwK7]
                  clear hwK7
                  refine wpZ_one (i := 19) (by kernel_rfl) rfl (fun K hK => ?_)
                  have cS := b17_7.cell; have fS := b17_7.frozen
                  go_simp
                  refine hK.out _ _ (fun _ => bSet4 (hSK7) lN17_6 _ _ _ _) ?_
                  clear hK K cS fS
                  obtain ⟨wK8, hwK8⟩ : ∃ x : World, x = ((((wK7.setCell ⟨N17_6, 0, none⟩ (.int .u64 ((limb 0 u2 : Nat) : Int))).setCell ⟨N17_6, 1, none⟩ (.int .u64 ((limb 1 u2 : Nat) : Int))).setCell ⟨N17_6, 2, none⟩ (.int .u64 ((limb 2 u2 : Nat) : Int))).setCell ⟨N17_6, 3, none⟩ (.int .u64 ((limb 3 u2 : Nat) : Int))) := ⟨_, rfl⟩
                  have hSK8 : Below w4.heap.size w4 wK8 := by rw [hwK8]; exact bSet4 (hSK7) lN17_6 _ _ _ _
                  have b16_8 : Blk wK8 24 N16_2 (fun i => limb i u1) := by rw [hwK8]; exact b16_7.other4 (by omega) _ _ _ _
                  have b17_8 : Blk wK8 24 N17_6 (fun i => limb i u2) := by rw [hwK8]; exact b17_7.set4 (fun i => limb i u2)
                  rw [← hwK8]
                  clear hwK8
                  refine wpZ_done (by kernel_rfl) ?_ _
                  go_wp2_with fail
                  go_meet
                  exact ⟨_, _, rfl, rfl, hSK8, b16_8, b17_8⟩
                · go_simp
                  have hSK5' : Below w4.heap.size w4 (wK4.alloc (.cells #[.int .u64 0, .int .u64 0, .int .u64 0, .int .u64 0] 24)) := bAlloc (hSK4) _
                  refine hK.out _ _ (fun _ => hSK5') ?_
                  clear hK K
                  obtain ⟨N17_5, hN17_5⟩ : ∃ N, N = wK4.heap.size := ⟨_, rfl⟩
                  obtain ⟨wK5, hwK5⟩ : ∃ x : World, x = wK4.alloc (.cells #[.int .u64 0, .int .u64 0, .int .u64 0, .int .u64 0] 24) := ⟨_, rfl⟩
                  have hSK5 : Below w4.heap.size w4 wK5 := by rw [hwK5]; exact hSK5'
                  have b17_5 : Blk wK5 24 N17_5 (fun _ => 0) := by rw [hwK5, hN17_5]; exact Blk.new wK4 24 (fun _ => 0)
                  have lN17_5 : w4.heap.size ≤ N17_5 := by rw [hN17_5]; exact (hSK4).size
                  have b16_5 : Blk wK5 24 N16_2 (fun _ => 0) := by rw [hwK5]; exact b16_4.alloc _
                  have neN16_2_N17_5 : N16_2 ≠ N17_5 := by have := b16_4.lt; omega
                  rw [← hwK5, ← hN17_5]
                  clear hwK5 hSK5' hN17_5
                  refine wpZ_one (i := 15) (by kernel_rfl) rfl (fun K hK => ?_)
                  go_simp
                  refine (C5.out wK5 (HGa.out.below (hSK5))).mono ?_
                  rintro e wK6 ⟨rfl, hbK6⟩
                  have hSK6 : Below w4.heap.size w4 wK6 := bStep (hSK5) hbK6
                  go_wp2_with fail
                  refine hK.out _ _ (fun _ => hSK6) ?_
                  clear hK K
                  have b16_6 := b16_5.belowAll hbK6
                  have b17_6 := b17_5.belowAll hbK6
                  refine wpZ_one (i := 18) (by kernel_rfl) rfl (fun K hK => ?_)
                  have cS := b16_6.cell; have fS := b16_6.frozen
                  go_simp
                  refine hK.out _ _ (fun _ => bSet4 (hSK6) lN16_2 _ _ _ _) ?_
                  clear hK K cS fS
                  obtain ⟨wK7, hwK7⟩ : ∃ x : World, x = ((((wK6.setCell ⟨N16_2, 0, none⟩ (.int .u64 ((limb 0 u1 : Nat) : Int))).setCell ⟨N16_2, 1, none⟩ (.int .u64 ((limb 1 u1 : Nat) : Int))).setCell ⟨N16_2, 2, none⟩ (.int .u64 ((limb 2 u1 : Nat) : Int))).setCell ⟨N16_2, 3, none⟩ (.int .u64 ((limb 3 u1 : Nat) : Int))) := ⟨_, rfl⟩
                  have hSK7 : Below w4.heap.size w4 wK7 := by rw [hwK7]; exact bSet4 (hSK6) lN16_2 _ _ _ _
                  have b16_7 : Blk wK7 24 N16_2 (fun i => limb i u1) := by rw [hwK7]; exact b16_6.set4 (fun i => limb i u1)
                  have b17_7 : Blk wK7 24 N17_5 (fun _ => 0) := by rw [hwK7]; exact b17_6.other4 (by omega) _ _ _ _
                  rw [← hwK7]
                  clear hwK7
                  refine wpZ_one (i := 19) (by kernel_rfl) rfl (fun K hK => ?_)
                  have cS := b17_7.cell; have fS := b17_7.frozen
                  go_simp
                  refine hK.out _ _ (fun _ => bSet4 (hSK7) lN17_5 _ _ _ _) ?_
                  clear hK K cS fS
                  obtain ⟨wK8, hwK8⟩ : ∃ x : World, x = ((((wK7.setCell ⟨N17_5, 0, none⟩ (.int .u64 ((limb 0 u2 : Nat) : Int))).setCell ⟨N17_5, 1, none⟩ (.int .u64 ((limb 1 u2 : Nat) : Int))).setCell ⟨N17_5, 2, none⟩ (.int .u64 ((limb 2 u2 : Nat) : Int))).setCell ⟨N17_5, 3, none⟩ (.int .u64 ((limb 3 u2 : Nat) : Int))) := ⟨_, rfl⟩
                  have hSK8 : Below w4.heap.size w4 wK8 := by rw [hwK8]; exact bSet4 (hSK7) lN17_5 _ _ _ _
                  have b16_8 : Blk wK8 24 N16_2 (fun i => limb i u1) := by rw [hwK8]; exact b16_7.other4 (by omega) _ _ _ _
                  have b17_8 : Blk wK8 24 N17_5 (fun i => limb i u2) := by rw [hwK8]; exact b17_7.set4 (fun i => limb i u2)
                  rw [← hwK8]
                  clear hwK8
                  refine wpZ_done (by kernel_rfl) ?_ _
                  go_wp2_with fail
                  go_meet
                  exact ⟨_, _, rfl, rfl, hSK8, b16_8, b17_8⟩
              · go_simp
                have hSK4' : Below w4.heap.size w4 (wK3.alloc (.cells #[.int .u64 0, .int .u64 0, .int .u64 0, .int .u64 0] 24)) := bAlloc (hSK3) _
                refine hK.out _ _ (fun _ => hSK4') ?_
                clear hK K
                obtain ⟨N17_4, hN17_4⟩ : ∃ N, N = wK3.heap.size := ⟨_, rfl⟩
                obtain ⟨wK4, hwK4⟩ : ∃ x : World, x = wK3.alloc (.cells #[.int .u64 0, .int .u64 0, .int .u64 0, .int .u64 0] 24) := ⟨_, rfl⟩
                have hSK4 : Below w4.heap.size w4 wK4 := by rw [hwK4]; exact hSK4'
                have b17_4 : Blk wK4 24 N17_4 (fun _ => 0) := by rw [hwK4, hN17_4]; exact Blk.new wK3 24 (fun _ => 0)
                have lN17_4 : w4.heap.size ≤ N17_4 := by rw [hN17_4]; exact (hSK3).size
                have b16_4 : Blk wK4 24 N16_2 (fun _ => 0) := by rw [hwK4]; exact b16_3.alloc _
                have neN16_2_N17_4 : N16_2 ≠ N17_4 := by have := b16_3.lt; omega
                rw [← hwK4, ← hN17_4]
                clear hwK4 hSK4' hN17_4
                refine wpZ_one (i := 14) (by kernel_rfl) rfl (fun K hK => ?_)
                go_simp
                refine (C3.out wK4 (HGa.out.below (hSK4)) (rk.belowAll (hSK4))).mono ?_
                rintro e wK5 ⟨rfl, hbK5⟩
                have hSK5 : Below w4.heap.size w4 wK5 := bStep (hSK4) hbK5
                go_wp2_with fail
                refine hK.out _ _ (fun _ => hSK5) ?_
                clear hK K
                have b16_5 := b16_4.belowAll hbK5
                have b17_5 := b17_4.belowAll hbK5
                refine wpZ_one (i := 15) (by kernel_rfl) rfl (fun K hK => ?_)
                go_simp
                refine (C5.out wK5 (HGa.out.below (hSK5))).mono ?_
                rintro e wK6 ⟨rfl, hbK6⟩
                have hSK6 : Below w4.heap.size w4 wK6 := bStep (hSK5) hbK6
                go_wp2_with fail
                refine hK.out _ _ (fun _ => hSK6) ?_
                clear hK K
                have b16_6 := b16_5.belowAll hbK6
                have b17_6 := b17_5.belowAll hbK6
                refine wpZ_one (i := 18) (by kernel_rfl) rfl (fun K hK => ?_)
                have cS := b16_6.cell; have fS := b16_6.frozen
                go_simp
                refine hK.out _ _ (fun _ => bSet4 (hSK6) lN16_2 _ _ _ _) ?_
                clear hK K cS fS
                obtain ⟨wK7, hwK7⟩ : ∃ x : World, x = ((((wK6.setCell ⟨N16_2, 0, none⟩ (.int .u64 ((limb 0 u1 : Nat) : Int))).setCell ⟨N16_2, 1, none⟩ (.int .u64 ((limb 1 u1 : Nat) : Int))).setCell ⟨N16_2, 2, none⟩ (.int .u64 ((limb 2 u1 : Nat) : Int))).setCell ⟨N16_2, 3, none⟩ (.int .u64 ((limb 3 u1 : Nat) : Int))) := ⟨_, rfl⟩
                have hSK7 : Below w4.heap.size w4 wK7 := by rw [hwK7]; exact bSet4 (hSK6) lN16_2 _ _ _ _
                have b16_7 : Blk wK7 24 N16_2 (fun i => limb i u1) := by rw [hwK7]; exact b16_6.set4 (fun i => limb i u1)
                have b17_7 : Blk wK7 24 N17_4 (fun _ => 0) := by rw [hwK7]; exact b17_6.other4 (by omega) _ _ _ _
                rw [← hwK7]
                clear hwK7
                refine wpZ_one (i := 19) (by kernel_rfl) rfl (fun K hK => ?_)
                have cS := b17_7.cell; have fS := b17_7.frozen
                go_simp
                refine hK.out _ _ (fun _ => bSet4 (hSK7) lN17_4 _ _ _ _) ?_
                clear hK K cS fS
                obtain ⟨wK8, hwK8⟩ : ∃ x : World, x = ((((wK7.setCell ⟨N17_4, 0, none⟩ (.int .u64 ((limb 0 u2 : Nat) : Int))).setCell ⟨N17_4, 1, none⟩ (.int .u64 ((limb 1 u2 : Nat) : Int))).setCell ⟨N17_4, 2, none⟩ (.int .u64 ((limb 2 u2 : Nat) : Int))).setCell ⟨N17_4, 3, none⟩ (.int .u64 ((limb 3 u2 : Nat) : Int))) := ⟨_, rfl⟩
                have hSK8 : Below w4.heap.size w4 wK8 := by rw [hwK8]; exact bSet4 (hSK7) lN17_4 _ _ _ _
                have b16_8 : Blk wK8 24 N16_2 (fun i => limb i u1) := by rw [hwK8]; exact b16_7.other4 (by omega) _ _ _ _
                have b17_8 : Blk wK8 24 N17_4 (fun i => limb i u2) := by rw [hwK8]; exact b17_7.set4 (fun i => limb i u2)
                rw [← hwK8]
                clear hwK8
                refine wpZ_done (by kernel_rfl) ?_ _
                go_wp2_with fail
                go_meet
                exact ⟨_, _, rfl, rfl, hSK8, b16_8, b17_8⟩
            · go_simp
              have hSK3' : Below w4.heap.size w4 (wK2.alloc (.cells #[.int .u64 0, .int .u64 0, .int .u64 0, .int .u64 0] 24)) := bAlloc (hSK2) _
              refine hK.out _ _ (fun _ => hSK3') ?_
              clear hK K
              obtain ⟨N17_3, hN17_3⟩ : ∃ N, N = wK2.heap.size := ⟨_, rfl⟩
              obtain ⟨wK3, hwK3⟩ : ∃ x : World, x = wK2.alloc (.cells #[.int .u64 0, .int .u64 0, .int .u64 0, .int .u64 0] 24) := ⟨_, rfl⟩
              have hSK3 : Below w4.heap.size w4 wK3 := by rw [hwK3]; exact hSK3'
              have b17_3 : Blk wK3 24 N17_3 (fun _ => 0) := by rw [hwK3, hN17_3]; exact Blk.new wK2 24 (fun _ => 0)
              have lN17_3 : w4.heap.size ≤ N17_3 := by rw [hN17_3]; exact (hSK2).size
              have b16_3 : Blk wK3 24 N16_2 (fun _ => 0) := by rw [hwK3]; exact b16_2.alloc _
              have neN16_2_N17_3 : N16_2 ≠ N17_3 := by have := b16_2.lt; omega
              rw [← hwK3, ← hN17_3]
              clear hwK3 hSK3' hN17_3
              refine wpZ_one (i := 7) (by kernel_rfl) rfl (fun K hK => ?_)
              go_simp
              refine (C4.out wK3 (HGa.out.below (hSK3))).mono ?_
              rintro e wK4 ⟨rfl, hbK4⟩
              have hSK4 : Below w4.heap.size w4 wK4 := bStep (hSK3) hbK4
              go_wp2_with fail
              refine hK.out _ _ (fun _ => hSK4) ?_
              clear hK K
              have b16_4 := b16_3.belowAll hbK4
              have b17_4 := b17_3.belowAll hbK4
              refine wpZ_one (i := 14) (by kernel_rfl) rfl (fun K hK => ?_)
              go_simp
              refine (C3.out wK4 (HGa.out.below (hSK4)) (rk.belowAll (hSK4))).mono ?_
              rintro e wK5 ⟨rfl, hbK5⟩
              have hSK5 : Below w4.heap.size w4 wK5 := bStep (hSK4) hbK5
              go_wp2_with fail
              refine hK.out _ _ (fun _ => hSK5) ?_
              clear hK K
              have b16_5 := b16_4.belowAll hbK5
              have b17_5 := b17_4.belowAll hbK5
              refine wpZ_one (i := 15) (by kernel_rfl) rfl (fun K hK => ?_)
              go_simp
              refine (C5.out wK5 (HGa.out.below (hSK5))).mono ?_
              rintro e wK6 ⟨rfl, hbK6⟩
              have hSK6 : Below w4.heap.size w4 wK6 := bStep (hSK5) hbK6
              go_wp2_with fail
              refine hK.out _ _ (fun _ => hSK6) ?_
              clear hK K
              have b16_6 := b16_5.belowAll hbK6
              have b17_6 := b17_5.belowAll hbK6
              refine wpZ_one (i := 18) (by kernel_rfl) rfl (fun K hK => ?_)
              have cS := b16_6.cell; have fS := b16_6.frozen
              go_simp
              refine hK.out _ _ (fun _ => bSet4 (hSK6) lN16_2 _ _ _ _) ?_
              clear hK K cS fS
              obtain ⟨wK7, hwK7⟩ : ∃ x : World, x = ((((wK6.setCell ⟨N16_2, 0, none⟩ (.int .u64 ((limb 0 u1 : Nat) : Int))).setCell ⟨N16_2, 1, none⟩ (.int .u64 ((limb 1 u1 : Nat) : Int))).setCell ⟨N16_2, 2, none⟩ (.int .u64 ((limb 2 u1 : Nat) : Int))).setCell ⟨N16_2, 3, none⟩ (.int .u64 ((limb 3 u1 : Nat) : Int))) := ⟨_, rfl⟩
              have hSK7 : Below w4.heap.size w4 wK7 := by rw [hwK7]; exact bSet4 (hSK6) lN16_2 _ _ _ _
              have b16_7 : Blk wK7 24 N16_2 (fun i => limb i u1) := by rw [hwK7]; exact b16_6.set4 (fun i => limb i u1)
              have b17_7 : Blk wK7 24 N17_3 (fun _ => 0) := by rw [hwK7]; exact b17_6.other4 (by omega) _ _ _ _
              rw [← hwK7]
              clear hwK7
              refine wpZ_one (i := 19) (by kernel_rfl) rfl (fun K hK => ?_)
              have cS := b17_7.cell; have fS := b17_7.frozen
              go_simp
              refine hK.out _ _ (fun _ => bSet4 (hSK7) lN17_3 _ _ _ _) ?_
              clear hK K cS fS
              obtain ⟨wK8, hwK8⟩ : ∃ x : World, x = ((((wK7.setCell ⟨N17_3, 0, none⟩ (.int .u64 ((limb 0 u2 : Nat) : Int))).setCell ⟨N17_3, 1, none⟩ (.int .u64 ((limb 1 u2 : Nat) : Int))).setCell ⟨N17_3, 2, none⟩ (.int .u64 ((limb 2 u2 : Nat) : Int))).setCell ⟨N17_3, 3, none⟩ (.int .u64 ((limb 3 u2 : Nat) : Int))) := ⟨_, rfl⟩
              have hSK8 : Below w4.heap.size w4 wK8 := by rw [hwK8]; exact bSet4 (hSK7) lN17_3 _ _ _ _
              have b16_8 : Blk wK8 24 N16_2 (fun i => limb i u1) := by rw [hwK8]; exact b16_7.other4 (by omega) _ _ _ _
              have b17_8 : Blk wK8 24 N17_3 (fun i => limb i u2) := by rw [hwK8]; exact b17_7.set4 (fun i => limb i u2)
              rw [← hwK8]
              clear hwK8
              refine wpZ_done (by kernel_rfl) ?_ _
              go_wp2_with fail
              go_meet
              exact ⟨_, _, rfl, rfl, hSK8, b16_8, b17_8⟩
          · go_simp
            have hSK2' : Below w4.heap.size w4 (wK1.alloc (.cells #[.int .u64 0, .int .u64 0, .int .u64 0, .int .u64 0] 24)) := bAlloc (hSK1) _
            refine hK.out _ _ (fun _ => hSK2') ?_
            clear hK K
            obtain ⟨N17_2, hN17_2⟩ : ∃ N, N = wK1.heap.size := ⟨_, rfl⟩
            obtain ⟨wK2, hwK2⟩ : ∃ x : World, x = wK1.alloc (.cells #[.int .u64 0, .int .u64 0, .int .u64 0, .int .u64 0] 24) := ⟨_, rfl⟩
            have hSK2 : Below w4.heap.size w4 wK2 := by rw [hwK2]; exact hSK2'
            have b17_2 : Blk wK2 24 N17_2 (fun _ => 0) := by rw [hwK2, hN17_2]; exact Blk.new wK1 24 (fun _ => 0)
            have lN17_2 : w4.heap.size ≤ N17_2 := by rw [hN17_2]; exact (hSK1).size
            rw [← hwK2, ← hN17_2]
            clear hwK2 hSK2' hN17_2
            refine wpZ_two (i := 7) (j := 16) (by kernel_rfl) rfl rfl (fun K hK => ?_) (fun K hK => ?_) 
            · go_simp
              refine (C4.out wK2 (HGa.out.below (hSK2))).mono ?_
              rintro e wK3 ⟨rfl, hbK3⟩
              have hSK3 : Below w4.heap.size w4 wK3 := bStep (hSK2) hbK3
              go_wp2_with fail
              refine hK.out _ _ (fun _ => hSK3) ?_
              clear hK K
              have b17_3 := b17_2.belowAll hbK3
              refine wpZ_two (i := 14) (j := 16) (by kernel_rfl) rfl rfl (fun K hK => ?_) (fun K hK => ?_) 
              · go_simp
                refine (C3.out wK3 (HGa.out.below (hSK3)) (rk.belowAll (hSK3))).mono ?_
                rintro e wK4 ⟨rfl, hbK4⟩
                have hSK4 : Below w4.heap.size w4 wK4 := bStep (hSK3) hbK4
                go_wp2_with fail
                refine hK.out _ _ (fun _ => hSK4) ?_
                clear hK K
                have b17_4 := b17_3.belowAll hbK4
                refine wpZ_two (i := 15) (j := 16) (by kernel_rfl) rfl rfl (fun K hK => ?_) (fun K hK => ?_) 
                · go_simp
                  refine (C5.out wK4 (HGa.out.below (hSK4))).mono ?_
                  rintro e wK5 ⟨rfl, hbK5⟩
                  have hSK5 : Below w4.heap.size w4 wK5 := bStep (hSK4) hbK5
                  go_wp2_with fail
                  refine hK.out _ _ (fun _ => hSK5) ?_
                  clear hK K
                  have b17_5 := b17_4.belowAll hbK5
                  refine wpZ_one (i := 16) (by kernel_rfl) rfl (fun K hK => ?_)
                  go_simp
                  have hSK6' : Below w4.heap.size w4 (wK5.alloc (.cells #[.int .u64 0, .int .u64 0, .int .u64 0, .int .u64 0] 24)) := bAlloc (hSK5) _
                  refine hK.out _ _ (fun _ => hSK6') ?_
                  clear hK K
                  obtain ⟨N16_6, hN16_6⟩ : ∃ N, N = wK5.heap.size := ⟨_, rfl⟩
                  obtain ⟨wK6, hwK6⟩ : ∃ x : World, x = wK5.alloc (.cells #[.int .u64 0, .int .u64 0, .int .u64 0, .int .u64 0] 24) := ⟨_, rfl⟩
                  have hSK6 : Below w4.heap.size w4 wK6 := by rw [hwK6]; exact hSK6'
                  have b16_6 : Blk wK6 24 N16_6 (fun _ => 0) := by rw [hwK6, hN16_6]; exact Blk.new wK5 24 (fun _ => 0)
                  have lN16_6 : w4.heap.size ≤ N16_6 := by rw [hN16_6]; exact (hSK5).size
                  have b17_6 : Blk wK6 24 N17_2 (fun _ => 0) := by rw [hwK6]; exact b17_5.alloc _
                  have neN17_2_N16_6 : N17_2 ≠ N16_6 := by have := b17_5.lt; omega
                  rw [← hwK6, ← hN16_6]
                  clear hwK6 hSK6' hN16_6
                  refine wpZ_one (i := 18) (by kernel_rfl) rfl (fun K hK => ?_)
                  have cS := b16_6.cell; have fS := b16_6.frozen
                  go_simp
                  refine hK.out _ _ (fun _ => bSet4 (hSK6) lN16_6 _ _ _ _) ?_
                  clear hK K cS fS
                  obtain ⟨wK7, hwK7⟩ : ∃ x : World, x = ((((wK6.setCell ⟨N16_6, 0, none⟩ (.int .u64 ((limb 0 u1 : Nat) : Int))).setCell ⟨N16_6, 1, none⟩ (.int .u64 ((limb 1 u1 : Nat) : Int))).setCell ⟨N16_6, 2, none⟩ (.int .u64 ((limb 2 u1 : Nat) : Int))).setCell ⟨N16_6, 3, none⟩ (.int .u64 ((limb 3 u1 : Nat) : Int))) := ⟨_, rfl⟩
                  have hSK7 : Below w4.heap.size w4 wK7 := by rw [hwK7]; exact bSet4 (hSK6) lN16_6 _ _ _ _
                  have b17_7 : Blk wK7 24 N17_2 (fun _ => 0) := by rw [hwK7]; exact b17_6.other4 (by omega) _ _ _ _
                  have b16_7 : Blk wK7 24 N16_6 (fun i => limb i u1) := by rw [hwK7]; exact b16_6.set4 (fun i => limb i u1)
                  rw [← hwK7]
                  clear hwK7
                  refine wpZ_one (i := 19) (by kernel_rfl) rfl (fun K hK => ?_)
                  have cS := b17_7.cell; have fS := b17_7.frozen
                  go_simp
                  refine hK.out _ _ (fun _ => bSet4 (hSK7) lN17_2 _ _ _ _) ?_
                  clear hK K cS fS
                  obtain ⟨wK8, hwK8⟩ : ∃ x : World, x = ((((wK7.setCell ⟨N17_2, 0, none⟩ (.int .u64 ((limb 0 u2 : Nat) : Int))).setCell ⟨N17_2, 1, none⟩ (.int .u64 ((limb 1 u2 : Nat) : Int))).setCell ⟨N17_2, 2, none⟩ (.int .u64 ((limb 2 u2 : Nat) : Int))).setCell ⟨N17_2, 3, none⟩ (.int .u64 ((limb 3 u2 : Nat) : Int))) := ⟨_, rfl⟩
                  have hSK8 : Below w4.heap.size w4 wK8 := by rw [hwK8]; exact bSet4 (hSK7) lN17_2 _ _ _ _
                  have b17_8 : Blk wK8 24 N17_2 (fun i => limb i u2) := by rw [hwK8]; exact b17_7.set4 (fun i => limb i u2)
                  have b16_8 : Blk wK8 24 N16_6 (fun i => limb i u1) := by rw [hwK8]; exact b16_7.other4 (by omega) _ _ _ _
                  rw [← hwK8]
                  clear hwK8
                  refine wpZ_done (by kernel_rfl) ?_ _
                  go_wp2_with fail
                  go_meet
                  exact ⟨_, _, rfl, rfl, hSK8, b16_8, b17_8⟩
                · go_simp
                  have hSK5' : Below w4.heap.size w4 (wK4.alloc (.cells #[.int .u64 0, .int .u64 0, .int .u64 0, .int .u64 0] 24)) := bAlloc (hSK4) _
                  refine hK.out _ _ (fun _ => hSK5') ?_
                  clear hK K
                  obtain ⟨N16_5, hN16_5⟩ : ∃ N, N = wK4.heap.size := ⟨_, rfl⟩
                  obtain ⟨wK5, hwK5⟩ : ∃ x : World, x = wK4.alloc (.cells #[.int .u64 0, .int .u64 0, .int .u64 0, .int .u64 0] 24) := ⟨_, rfl⟩
                  have hSK5 : Below w4.heap.size w4 wK5 := by rw [hwK5]; exact hSK5'
                  have b16_5 : Blk wK5 24 N16_5 (fun _ => 0) := by rw [hwK5, hN16_5]; exact Blk.new wK4 24 (fun _ => 0)
                  have lN16_5 : w4.heap.size ≤ N16_5 := by rw [hN16_5]; exact (hSK4).size
                  have b17_5 : Blk wK5 24 N17_2 (fun _ => 0) := by rw [hwK5]; exact b17_4.alloc _
                  have neN17_2_N16_5 : N17_2 ≠ N16_5 := by have := b17_4.lt; omega
                  rw [← hwK5, ← hN16_5]
                  clear hwK5 hSK5' hN16_5
                  refine wpZ_one (i := 15) (by kernel_rfl) rfl (fun K hK => ?_)
                  go_simp
                  refine (C5.out wK5 (HGa.out.below (hSK5))).mono ?_
                  rintro e wK6 ⟨rfl, hbK6⟩
                  have hSK6 : Below w4.heap.size w4 wK6 := bStep (hSK5) hbK6
                  go_wp2_with fail
                  refine hK.out _ _ (fun _ => hSK6) ?_
                  clear hK K
                  have b17_6 := b17_5.belowAll hbK6
                  have b16_6 := b16_5.belowAll hbK6
                  refine wpZ_one (i := 18) (by kernel_rfl) rfl (fun K hK => ?_)
                  have cS := b16_6.cell; have fS := b16_6.frozen
                  go_simp
                  refine hK.out _ _ (fun _ => bSet4 (hSK6) lN16_5 _ _ _ _) ?_
                  clear hK K cS fS
                  obtain ⟨wK7, hwK7⟩ : ∃ x : World, x = ((((wK6.setCell ⟨N16_5, 0, none⟩ (.int .u64 ((limb 0 u1 : Nat) : Int))).setCell ⟨N16_5, 1, none⟩ (.int .u64 ((limb 1 u1 : Nat) : Int))).setCell ⟨N16_5, 2, none⟩ (.int .u64 ((limb 2 u1 : Nat) : Int))).setCell ⟨N16_5, 3, none⟩ (.int .u64 ((limb 3 u1 : Nat) : Int))) := ⟨_, rfl⟩
                  have hSK7 : Below w4.heap.size w4 wK7 := by rw [hwK7]; exact bSet4 (hSK6) lN16_5 _ _ _ _
                  have b17_7 : Blk wK7 24 N17_2 (fun _ => 0) := by rw [hwK7]; exact b17_6.other4 (by omega) _ _ _ _
                  have b16_7 : Blk wK7 24 N16_5 (fun i => limb i u1) := by rw [hwK7]; exact b16_6.set4 (fun i => limb i u1)
                  rw [← hwK7]
                  clear hwK7
                  refine wpZ_one (i := 19) (by kernel_rfl) rfl (fun K hK => ?_)
                  have cS := b17_7.cell; have fS := b17_7.frozen
                  go_simp
                  refine hK.out _ _ (fun _ => bSet4 (hSK7) lN17_2 _ _ _ _) ?_
                  clear hK K cS fS
                  obtain ⟨wK8, hwK8⟩ : ∃ x : World, x = ((((wK7.setCell ⟨N17_2, 0, none⟩ (.int .u64 ((limb 0 u2 : Nat) : Int))).setCell ⟨N17_2, 1, none⟩ (.int .u64 ((limb 1 u2 : Nat) : Int))).setCell ⟨N17_2, 2, none⟩ (.int .u64 ((limb 2 u2 : Nat) : Int))).setCell ⟨N17_2, 3, none⟩ (.int .u64 ((limb 3 u2 : Nat) : Int))) := ⟨_, rfl⟩
                  have hSK8 : Below w4.heap.size w4 wK8 := by rw [hwK8]; exact bSet4 (hSK7) lN17_2 _ _ _ _
                  have b17_8 : Blk wK8 24 N17_2 (fun i => limb i u2) := by rw [hwK8]; exact b17_7.set4 (fun i => limb i u2)
                  have b16_8 : Blk wK8 24 N16_5 (fun i => limb i u1) := by rw [hwK8]; exact b16_7.other4 (by omega) _ _ _ _
                  rw [← hwK8]
                  clear hwK8
                  refine wpZ_done (by kernel_rfl) ?_ _
                  go_wp2_with fail
                  go_meet
                  exact ⟨_, _, rfl, rfl, hSK8, b16_8, b17_8⟩
              · go_simp
                have hSK4' : Below w4.heap.size w4 (wK3.alloc (.cells #[.int .u64 0, .int .u64 0, .int .u64 0, .int .u64 0] 24)) := bAlloc (hSK3) _
                refine hK.out _ _ (fun _ => hSK4') ?_
                clear hK K
                obtain ⟨N16_4, hN16_4⟩ : ∃ N, N = wK3.heap.size := ⟨_, rfl⟩
                obtain ⟨wK4, hwK4⟩ : ∃ x : World, x = wK3.alloc (.cells #[.int .u64 0, .int .u64 0, .int .u64 0, .int .u64 0] 24) := ⟨_, rfl⟩
                have hSK4 : Below w4.heap.size w4 wK4 := by rw [hwK4]; exact hSK4'
                have b16_4 : Blk wK4 24 N16_4 (fun _ => 0) := by rw [hwK4, hN16_4]; exact Blk.new wK3 24 (fun _ => 0)
                have lN16_4 : w4.heap.size ≤ N16_4 := by rw [hN16_4]; exact (hSK3).size
                have b17_4 : Blk wK4 24 N17_2 (fun _ => 0) := by rw [hwK4]; exact b17_3.alloc _
                have neN17_2_N16_4 : N17_2 ≠ N16_4 := by have := b17_3.lt; omega
                rw [← hwK4, ← hN16_4]
                clear hwK4 hSK4' hN16_4
                refine wpZ_one (i := 14) (by kernel_rfl) rfl (fun K hK => ?_)
                go_simp
                refine (C3.out wK4 (HGa.out.below (hSK4)) (rk.belowAll (hSK4))).mono ?_
                rintro e wK5 ⟨rfl, hbK5⟩
                have hSK5 : Below w4.heap.size w4 wK5 := bStep (hSK4) hbK5
                go_wp2_with fail
                refine hK.out _ _ (fun _ => hSK5) ?_
                clear hK K
                have b17_5 := b17_4.belowAll hbK5
                have b16_5 := b16_4.belowAll hbK5
                refine wpZ_one (i := 15) (by kernel_rfl) rfl (fun K hK => ?_)
                go_simp
                refine (C5.out wK5 (HGa.out.below (hSK5))).mono ?_
                rintro e wK6 ⟨rfl, hbK6⟩
                have hSK6 : Below w4.heap.size w4 wK6 := bStep (hSK5) hbK6
                go_wp2_with fail
                refine hK.out _ _ (fun _ => hSK6) ?_
                clear hK K
                have b17_6 := b17_5.belowAll hbK6
                have b16_6 := b16_5.belowAll hbK6
                refine wpZ_one (i := 18) (by kernel_rfl) rfl (fun K hK => ?_)
                have cS := b16_6.cell; have fS := b16_6.frozen
                go_simp
                refine hK.out _ _ (fun _ => bSet4 (hSK6) lN16_4 _ _ _ _) ?_
                clear hK K cS fS
                obtain ⟨wK7, hwK7⟩ : ∃ x : World, x = ((((wK6.setCell ⟨N16_4, 0, none⟩ (.int .u64 ((limb 0 u1 : Nat) : Int))).setCell ⟨N16_4, 1, none⟩ (.int .u64 ((limb 1 u1 : Nat) : Int))).setCell ⟨N16_4, 2, none⟩ (.int .u64 ((limb 2 u1 : Nat) : Int))).setCell ⟨N16_4, 3, none⟩ (.int .u64 ((limb 3 u1 : Nat) : Int))) := ⟨_, rfl⟩
                have hSK7 : Below w4.heap.size w4 wK7 := by rw [hwK7]; exact bSet4 (hSK6) lN16_4 _ _ _ _
                have b17_7 : Blk wK7 24 N17_2 (fun _ => 0) := by rw [hwK7]; exact b17_6.other4 (by omega) _ _ _ _
                have b16_7 : Blk wK7 24 N16_4 (fun i => limb i u1) := by rw [hwK7]; exact b16_6.set4 (fun i => limb i u1)
                rw [← hwK7]
                clear hwK7
                refine wpZ_one (i := 19) (by kernel_rfl) rfl (fun K hK => ?_)
                have cS := b17_7.cell; have fS := b17_7.frozen
                go_simp
                refine hK.out _ _ (fun _ => bSet4 (hSK7) lN17_2 _ _ _ _) ?_
                clear hK K cS fS
                obtain ⟨wK8, hwK8⟩ : ∃ x : World, x = ((((wK7.setCell ⟨N17_2, 0, none⟩ (.int .u64 ((limb 0 u2 : Nat) : Int))).setCell ⟨N17_2, 1, none⟩ (.int .u64 ((limb 1 u2 : Nat) : Int))).setCell ⟨N17_2, 2, none⟩ (.int .u64 ((limb 2 u2 : Nat) : Int))).setCell ⟨N17_2, 3, none⟩ (.int .u64 ((limb 3 u2 : Nat) : Int))) := ⟨_, rfl⟩
                have hSK8 : Below w4.heap.size w4 wK8 := by rw [hwK8]; exact bSet4 (hSK7) lN17_2 _ _ _ _
                have b17_8 : Blk wK8 24 N17_2 (fun i => limb i u2) := by rw [hwK8]; exact b17_7.set4 (fun i => limb i u2)
                have b16_8 : Blk wK8 24 N16_4 (fun i => limb i u1) := by rw [hwK8]; exact b16_7.other4 (by omega) _ _ _ _
                rw [← hwK8]
                clear hwK8
                refine wpZ_done (by kernel_rfl) ?_ _
                go_wp2_with fail
                go_meet
                exact ⟨_, _, rfl, rfl, hSK8, b16_8, b17_8⟩
            · go_simp
              have hSK3' : Below w4.heap.size w4 (wK2.alloc (.cells #[.int .u64 0, .int .u64 0, .int .u64 0, .int .u64 0] 24)) := bAlloc (hSK2) _
              refine hK.out _ _ (fun _ => hSK3') ?_
              clear hK K
              obtain ⟨N16_3, hN16_3⟩ : ∃ N, N = wK2.heap.size := ⟨_, rfl⟩
              obtain ⟨wK3, hwK3⟩ : ∃ x : World, x = wK2.alloc (.cells #[.int .u64 0, .int .u64 0, .int .u64 0, .int .u64 0] 24) := ⟨_, rfl⟩
              have hSK3 : Below w4.heap.size w4 wK3 := by rw [hwK3]; exact hSK3'
              have b16_3 : Blk wK3 24 N16_3 (fun _ => 0) := by rw [hwK3, hN16_3]; exact Blk.new wK2 24 (fun _ => 0)
              have lN16_3 : w4.heap.size ≤ N16_3 := by rw [hN16_3]; exact (hSK2).size
              have b17_3 : Blk wK3 24 N17_2 (fun _ => 0) := by rw [hwK3]; exact b17_2.alloc _
              have neN17_2_N16_3 : N17_2 ≠ N16_3 := by have := b17_2.lt; omega
              rw [← hwK3, ← hN16_3]
              clear hwK3 hSK3' hN16_3
              refine wpZ_one (i := 7) (by kernel_rfl) rfl (fun K hK => ?_)
              go_simp
              refine (C4.out wK3 (HGa.out.below (hSK3))).mono ?_
              rintro e wK4 ⟨rfl, hbK4⟩
              have hSK4 : Below w4.heap.size w4 wK4 := bStep (hSK3) hbK4
              go_wp2_with fail
              refine hK.out _ _ (fun _ => hSK4) ?_
              clear hK K
              have b17_4 := b17_3.belowAll hbK4
              have b16_4 := b16_3.belowAll hbK4
              refine wpZ_one (i := 14) (by kernel_rfl) rfl (fun K hK => ?_)
              go_simp
              refine (C3.out wK4 (HGa.out.below (hSK4)) (rk.belowAll (hSK4))).mono ?_
              rintro e wK5 ⟨rfl, hbK5⟩
              have hSK5 : Below w4.heap.size w4 wK5 := bStep (hSK4) hbK5
              go_wp2_with fail
              refine hK.out _ _ (fun _ => hSK5) ?_
              clear hK K
              have b17_5 := b17_4.belowAll hbK5
              have b16_5 := b16_4.belowAll hbK5
              refine wpZ_one (i := 15) (by kernel_rfl) rfl (fun K hK => ?_)
              go_simp
              refine (C5.out wK5 (HGa.out.below (hSK5))).mono ?_
              rintro e wK6 ⟨rfl, hbK6⟩
              have hSK6 : Below w4.heap.size w4 wK6 := bStep (hSK5) hbK6
              go_wp2_with fail
              refine hK.out _ _ (fun _ => hSK6) ?_
              clear hK K
              have b17_6 := b17_5.belowAll hbK6
              have b16_6 := b16_5.belowAll hbK6
              refine wpZ_one (i := 18) (by kernel_rfl) rfl (fun K hK => ?_)
              have cS := b16_6.cell; have fS := b16_6.frozen
              go_simp
              refine hK.out _ _ (fun _ => bSet4 (hSK6) lN16_3 _ _ _ _) ?_
              clear hK K cS fS
              obtain ⟨wK7, hwK7⟩ : ∃ x : World, x = ((((wK6.setCell ⟨N16_3, 0, none⟩ (.int .u64 ((limb 0 u1 : Nat) : Int))).setCell ⟨N16_3, 1, none⟩ (.int .u64 ((limb 1 u1 : Nat) : Int))).setCell ⟨N16_3, 2, none⟩ (.int .u64 ((limb 2 u1 : Nat) : Int))).setCell ⟨N16_3, 3, none⟩ (.int .u64 ((limb 3 u1 : Nat) : Int))) := ⟨_, rfl⟩
              have hSK7 : Below w4.heap.size w4 wK7 := by rw [hwK7]; exact bSet4 (hSK6) lN16_3 _ _ _ _
              have b17_7 : Blk wK7 24 N17_2 (fun _ => 0) := by rw [hwK7]; exact b17_6.other4 (by omega) _ _ _ _
              have b16_7 : Blk wK7 24 N16_3 (fun i => limb i u1) := by rw [hwK7]; exact b16_6.set4 (fun i => limb i u1)
              rw [← hwK7]
              clear hwK7
              refine wpZ_one (i := 19) (by kernel_rfl) rfl (fun K hK => ?_)
              have cS := b17_7.cell; have fS := b17_7.frozen
              go_simp
              refine hK.out _ _ (fun _ => bSet4 (hSK7) lN17_2 _ _ _ _) ?_
              clear hK K cS fS
              obtain ⟨wK8, hwK8⟩ : ∃ x : World, x = ((((wK7.setCell ⟨N17_2, 0, none⟩ (.int .u64 ((limb 0 u2 : Nat) : Int))).setCell ⟨N17_2, 1, none⟩ (.int .u64 ((limb 1 u2 : Nat) : Int))).setCell ⟨N17_2, 2, none⟩ (.int .u64 ((limb 2 u2 : Nat) : Int))).setCell ⟨N17_2, 3, none⟩ (.int .u64 ((limb 3 u2 : Nat) : Int))) := ⟨_, rfl⟩
              have hSK8 : Below w4.heap.size w4 wK8 := by rw [hwK8]; exact bSet4 (hSK7) lN17_2 _ _ _ _
              have b17_8 : Blk wK8 24 N17_2 (fun i => limb i u2) := by rw [hwK8]; exact b17_7.set4 (fun i => limb i u2)
              have b16_8 : Blk wK8 24 N16_3 (fun i => limb i u1) := by rw [hwK8]; exact b16_7.other4 (by omega) _ _ _ _
              rw [← hwK8]
              clear hwK8
              refine wpZ_done (by kernel_rfl) ?_ _
              go_wp2_with fail
              go_meet
              exact ⟨_, _, rfl, rfl, hSK8, b16_8, b17_8⟩
        · go_simp
          have hSK1' : Below w4.heap.size w4 ((w4.alloc (.cells #[.int .u64 0, .int .u64 0, .int .u64 0, .int .u64 0] 24)).drew) := (bAlloc (Below.refl _ _) _).drew
          refine hK.out _ _ (fun _ => hSK1') ?_
          clear hK K
          obtain ⟨N16_1, hN16_1⟩ : ∃ N, N = w4.heap.size := ⟨_, rfl⟩
          obtain ⟨wK1, hwK1⟩ : ∃ x : World, x = (w4.alloc (.cells #[.int .u64 0, .int .u64 0, .int .u64 0, .int .u64 0] 24)).drew := ⟨_, rfl⟩
          have hSK1 : Below w4.heap.size w4 wK1 := by rw [hwK1]; exact hSK1'
          have b16_1 : Blk wK1 24 N16_1 (fun _ => 0) := by rw [hwK1, hN16_1]; exact (Blk.new w4 24 (fun _ => 0)).drew
          have lN16_1 : w4.heap.size ≤ N16_1 := by rw [hN16_1]; exact (HS0.out).size
          rw [← hwK1, ← hN16_1]
          clear hwK1 hSK1' hN16_1
          refine wpZ_two (i := 6) (j := 17) (by kernel_rfl) rfl rfl (fun K hK => ?_) (fun K hK => ?_) 
          · go_simp
            refine (C2.out wK1 (HGa.out.below (hSK1)) (rk.belowAll (hSK1))).mono ?_
            rintro e wK2 ⟨rfl, hbK2⟩
            have hSK2 : Below w4.heap.size w4 wK2 := bStep (hSK1) hbK2
            go_wp2_with fail
            refine hK.out _ _ (fun _ => hSK2) ?_
            clear hK K
            have b16_2 := b16_1.belowAll hbK2
            refine wpZ_two (i := 7) (j := 17) (by kernel_rfl) rfl rfl (fun K hK => ?_) (fun K hK => ?_) 
            · go_simp
              refine (C4.out wK2 (HGa.out.below (hSK2))).mono ?_
              rintro e wK3 ⟨rfl, hbK3⟩
              have hSK3 : Below w4.heap.size w4 wK3 := bStep (hSK2) hbK3
              go_wp2_with fail
              refine hK.out _ _ (fun _ => hSK3) ?_
              clear hK K
              have b16_3 := b16_2.belowAll hbK3
              refine wpZ_two (i := 14) (j := 17) (by kernel_rfl) rfl rfl (fun K hK => ?_) (fun K hK => ?_) 
              · go_simp
                refine (C3.out wK3 (HGa.out.below (hSK3)) (rk.belowAll (hSK3))).mono ?_
                rintro e wK4 ⟨rfl, hbK4⟩
                have hSK4 : Below w4.heap.size w4 wK4 := bStep (hSK3) hbK4
                go_wp2_with fail
                refine hK.out _ _ (fun _ => hSK4) ?_
                clear hK K
                have b16_4 := b16_3.belowAll hbK4
                refine wpZ_two (i := 15) (j := 17) (by kernel_rfl) rfl rfl (fun K hK => ?_) (fun K hK => ?_) 
                · go_simp
                  refine (C5.out wK4 (HGa.out.below (hSK4))).mono ?_
                  rintro e wK5 ⟨rfl, hbK5⟩
                  have hSK5 : Below w4.heap.size w4 wK5 := bStep (hSK4) hbK5
                  go_wp2_with fail
                  refine hK.out _ _ (fun _ => hSK5) ?_
                  clear hK K
                  have b16_5 := b16_4.belowAll hbK5
                  refine wpZ_one (i := 17) (by kernel_rfl) rfl (fun K hK => ?_)
                  go_simp
                  have hSK6' : Below w4.heap.size w4 (wK5.alloc (.cells #[.int .u64 0, .int .u64 0, .int .u64 0, .int .u64 0] 24)) := bAlloc (hSK5) _
                  refine hK.out _ _ (fun _ => hSK6') ?_
                  clear hK K
                  obtain ⟨N17_6, hN17_6⟩ : ∃ N, N = wK5.heap.size := ⟨_, rfl⟩
                  obtain ⟨wK6, hwK6⟩ : ∃ x : World, x = wK5.alloc (.cells #[.int .u64 0, .int .u64 0, .int .u64 0, .int .u64 0] 24) := ⟨_, rfl⟩
                  have hSK6 : Below w4.heap.size w4 wK6 := by rw [hwK6]; exact hSK6'
                  have b17_6 : Blk wK6 24 N17_6 (fun _ => 0) := by rw [hwK6, hN17_6]; exact Blk.new wK5 24 (fun _ => 0)
                  have lN17_6 : w4.heap.size ≤ N17_6 := by rw [hN17_6]; exact (hSK5).size
                  have b16_6 : Blk wK6 24 N16_1 (fun _ => 0) := by rw [hwK6]; exact b16_5.alloc _
                  have neN16_1_N17_6 : N16_1 ≠ N17_6 := by have := b16_5.lt; omega
                  rw [← hwK6, ← hN17_6]
                  clear hwK6 hSK6' hN17_6
                  refine wpZ_one (i := 18) (by kernel_rfl) rfl (fun K hK => ?_)
                  have cS := b16_6.cell; have fS := b16_6.frozen
                  go_simp
                  refine hK.out _ _ (fun _ => bSet4 (hSK6) lN16_1 _ _ _ _) ?_
                  clear hK K cS fS
                  obtain ⟨wK7, hwK7⟩ : ∃ x : World, x = ((((wK6.setCell ⟨N16_1, 0, none⟩ (.int .u64 ((limb 0 u1 : Nat) : Int))).setCell ⟨N16_1, 1, none⟩ (.int .u64 ((limb 1 u1 : Nat) : Int))).setCell ⟨N16_1, 2, none⟩ (.int .u64 ((limb 2 u1 : Nat) : Int))).setCell ⟨N16_1, 3, none⟩ (.int .u64 ((limb 3 u1 : Nat) : Int))) := ⟨_, rfl⟩
                  have hSK7 : Below w4.heap.size w4 wK7 := by rw [hwK7]; exact bSet4 (hSK6) lN16_1 _ _ _ _
                  have b16_7 : Blk wK7 24 N16_1 (fun i => limb i u1) := by rw [hwK7]; exact b16_6.set4 (fun i => limb i u1)
                  have b17_7 : Blk wK7 24 N17_6 (fun _ => 0) := by rw [hwK7]; exact b17_6.other4 (by omega) _ _ _ _
                  rw [← hwK7]
                  clear hwK7
                  refine wpZ_one (i := 19) (by kernel_rfl) rfl (fun K hK => ?_)
                  have cS := b17_7.cell; have fS := b17_7.frozen
                  go_simp
                  refine hK.out _ _ (fun _ => bSet4 (hSK7) lN17_6 _ _ _ _) ?_
                  clear hK K cS fS
                  obtain ⟨wK8, hwK8⟩ : ∃ x : World, x = ((((wK7.setCell ⟨N17_6, 0, none⟩ (.int .u64 ((limb 0 u2 : Nat) : Int))).setCell ⟨N17_6, 1, none⟩ (.int .u64 ((limb 1 u2 : Nat) : Int))).setCell ⟨N17_6, 2, none⟩ (.int .u64 ((limb 2 u2 : Nat) : Int))).setCell ⟨N17_6, 3, none⟩ (.int .u64 ((limb 3 u2 : Nat) : Int))) := ⟨_, rfl⟩
                  have hSK8 : Below w4.heap.size w4 wK8 := by rw [hwK8]; exact bSet4 (hSK7) lN17_6 _ _ _ _
                  have b16_8 : Blk wK8 24 N16_1 (fun i => limb i u1) := by rw [hwK8]; exact b16_7.other4 (by omega) _ _ _ _
                  have b17_8 : Blk wK8 24 N17_6 (fun i => limb i u2) := by rw [hwK8]; exact b17_7.set4 (fun i => limb i u2)
                  rw [← hwK8]
                  clear hwK8
                  refine wpZ_done (by kernel_rfl) ?_ _
                  go_wp2_with fail
                  go_meet
                  exact ⟨_, _, rfl, rfl, hSK8, b16_8, b17_8⟩
                · go_simp
                  have hSK5' : Below w4.heap.size w4 (wK4.alloc (.cells #[.int .u64 0, .int .u64 0, .int .u64 0, .int .u64 0] 24)) := bAlloc (hSK4) _
                  refine hK.out _ _ (fun _ => hSK5') ?_
                  clear hK K
                  obtain ⟨N17_5, hN17_5⟩ : ∃ N, N = wK4.heap.size := ⟨_, rfl⟩
                  obtain ⟨wK5, hwK5⟩ : ∃ x : World, x = wK4.alloc (.cells #[.int .u64 0, .int .u64 0, .int .u64 0, .int .u64 0] 24) := ⟨_, rfl⟩
                  have hSK5 : Below w4.heap.size w4 wK5 := by rw [hwK5]; exact hSK5'
                  have b17_5 : Blk wK5 24 N17_5 (fun _ => 0) := by rw [hwK5, hN17_5]; exact Blk.new wK4 24 (fun _ => 0)
                  have lN17_5 : w4.heap.size ≤ N17_5 := by rw [hN17_5]; exact (hSK4).size
                  have b16_5 : Blk wK5 24 N16_1 (fun _ => 0) := by rw [hwK5]; exact b16_4.alloc _
                  have neN16_1_N17_5 : N16_1 ≠ N17_5 := by have := b16_4.lt; omega
                  rw [← hwK5, ← hN17_5]
                  clear hwK5 hSK5' hN17_5
                  refine wpZ_one (i := 15) (by kernel_rfl) rfl (fun K hK => ?_)
                  go_simp
                  refine (C5.out wK5 (HGa.out.below (hSK5))).mono ?_
                  rintro e wK6 ⟨rfl, hbK6⟩
                  have hSK6 : Below w4.heap.size w4 wK6 := bStep (hSK5) hbK6
                  go_wp2_with fail
                  refine hK.out _ _ (fun _ => hSK6) ?_
                  clear hK K
                  have b16_6 := b16_5.belowAll hbK6
                  have b17_6 := b17_5.belowAll hbK6
                  refine wpZ_one (i := 18) (by kernel_rfl) rfl (fun K hK => ?_)
                  have cS := b16_6.cell; have fS := b16_6.frozen
                  go_simp
                  refine hK.out _ _ (fun _ => bSet4 (hSK6) lN16_1 _ _ _ _) ?_
                  clear hK K cS fS
                  obtain ⟨wK7, hwK7⟩ : ∃ x : World, x = ((((wK6.setCell ⟨N16_1, 0, none⟩ (.int .u64 ((limb 0 u1 : Nat) : Int))).setCell ⟨N16_1, 1, none⟩ (.int .u64 ((limb 1 u1 : Nat) : Int))).setCell ⟨N16_1, 2, none⟩ (.int .u64 ((limb 2 u1 : Nat) : Int))).setCell ⟨N16_1, 3, none⟩ (.int .u64 ((limb 3 u1 : Nat) : Int))) := ⟨_, rfl⟩
                  have hSK7 : Below w4.heap.size w4 wK7 := by rw [hwK7]; exact bSet4 (hSK6) lN16_1 _ _ _ _
                  have b16_7 : Blk wK7 24 N16_1 (fun i => limb i u1) := by rw [hwK7]; exact b16_6.set4 (fun i => limb i u1)
                  have b17_7 : Blk wK7 24 N17_5 (fun _ => 0) := by rw [hwK7]; exact b17_6.other4 (by omega) _ _ _ _
                  rw [← hwK7]
                  clear hwK7
                  refine wpZ_one (i := 19) (by kernel_rfl) rfl (fun K hK => ?_)
                  have cS := b17_7.cell; have fS := b17_7.frozen
                  go_simp
                  refine hK.out _ _ (fun _ => bSet4 (hSK7) lN17_5 _ _ _ _) ?_
                  clear hK K cS fS
                  obtain ⟨wK8, hwK8⟩ : ∃ x : World, x = ((((wK7.setCell ⟨N17_5, 0, none⟩ (.int .u64 ((limb 0 u2 : Nat) : Int))).setCell ⟨N17_5, 1, none⟩ (.int .u64 ((limb 1 u2 : Nat) : Int))).setCell ⟨N17_5, 2, none⟩ (.int .u64 ((limb 2 u2 : Nat) : Int))).setCell ⟨N17_5, 3, none⟩ (.int .u64 ((limb 3 u2 : Nat) : Int))) := ⟨_, rfl⟩
                  have hSK8 : Below w4.heap.size w4 wK8 := by rw [hwK8]; exact bSet4 (hSK7) lN17_5 _ _ _ _
                  have b16_8 : Blk wK8 24 N16_1 (fun i => limb i u1) := by rw [hwK8]; exact b16_7.other4 (by omega) _ _ _ _
                  have b17_8 : Blk wK8 24 N17_5 (fun i => limb i u2) := by rw [hwK8]; exact b17_7.set4 (fun i => limb i u2)
                  rw [← hwK8]
                  clear hwK8
                  refine wpZ_done (by kernel_rfl) ?_ _
                  go_wp2_with fail
                  go_meet
                  exact ⟨_, _, rfl, rfl, hSK8, b16_8, b17_8⟩
              · go_simp
                have hSK4' : Below w4.heap.size w4 (wK3.alloc (.cells #[.int .u64 0, .int .u64 0, .int .u64 0, .int .u64 0] 24)) := bAlloc (hSK3) _
                refine hK.out _ _ (fun _ => hSK4') ?_
                clear hK K
                obtain ⟨N17_4, hN17_4⟩ : ∃ N, N = wK3.heap.size := ⟨_, rfl⟩
                obtain ⟨wK4, hwK4⟩ : ∃ x : World, x = wK3.alloc (.cells #[.int .u64 0, .int .u64 0, .int .u64 0, .int .u64 0] 24) := ⟨_, rfl⟩
                have hSK4 : Below w4.heap.size w4 wK4 := by rw [hwK4]; exact hSK4'
                have b17_4 : Blk wK4 24 N17_4 (fun _ => 0) := by rw [hwK4, hN17_4]; exact Blk.new wK3 24 (fun _ => 0)
                have lN17_4 : w4.heap.size ≤ N17_4 := by rw [hN17_4]; exact (hSK3).size
                have b16_4 : Blk wK4 24 N16_1 (fun _ => 0) := by rw [hwK4]; exact b16_3.alloc _
                have neN16_1_N17_4 : N16_1 ≠ N17_4 := by have := b16_3.lt; omega
                rw [← hwK4, ← hN17_4]
                clear hwK4 hSK4' hN17_4
                refine wpZ_one (i := 14) (by kernel_rfl) rfl (fun K hK => ?_)
                go_simp
                refine (C3.out wK4 (HGa.out.below (hSK4)) (rk.belowAll (hSK4))).mono ?_
                rintro e wK5 ⟨rfl, hbK5⟩
                have hSK5 : Below w4.heap.size w4 wK5 := bStep (hSK4) hbK5
                go_wp2_with fail
                refine hK.out _ _ (fun _ => hSK5) ?_
                clear hK K
                have b16_5 := b16_4.belowAll hbK5
                have b17_5 := b17_4.belowAll hbK5
                refine wpZ_one (i := 15) (by kernel_rfl) rfl (fun K hK => ?_)
                go_simp
                refine (C5.out wK5 (HGa.out.below (hSK5))).mono ?_
                rintro e wK6 ⟨rfl, hbK6⟩
                have hSK6 : Below w4.heap.size w4 wK6 := bStep (hSK5) hbK6
                go_wp2_with fail
                refine hK.out _ _ (fun _ => hSK6) ?_
                clear hK K
                have b16_6 := b16_5.belowAll hbK6
                have b17_6 := b17_5.belowAll hbK6
                refine wpZ_one (i := 18) (by kernel_rfl) rfl (fun K hK => ?_)
                have cS := b16_6.cell; have fS := b16_6.frozen
                go_simp
                refine hK.out _ _ (fun _ => bSet4 (hSK6) lN16_1 _ _ _ _) ?_
                clear hK K cS fS
                obtain ⟨wK7, hwK7⟩ : ∃ x : World, x = ((((wK6.setCell ⟨N16_1, 0, none⟩ (.int .u64 ((limb 0 u1 : Nat) : Int))).setCell ⟨N16_1, 1, none⟩ (.int .u64 ((limb 1 u1 : Nat) : Int))).setCell ⟨N16_1, 2, none⟩ (.int .u64 ((limb 2 u1 : Nat) : Int))).setCell ⟨N16_1, 3, none⟩ (.int .u64 ((limb 3 u1 : Nat) : Int))) := ⟨_, rfl⟩
                have hSK7 : Below w4.heap.size w4 wK7 := by rw [hwK7]; exact bSet4 (hSK6) lN16_1 _ _ _ _
                have b16_7 : Blk wK7 24 N16_1 (fun i => limb i u1) := by rw [hwK7]; exact b16_6.set4 (fun i => limb i u1)
                have b17_7 : Blk wK7 24 N17_4 (fun _ => 0) := by rw [hwK7]; exact b17_6.other4 (by omega) _ _ _ _
                rw [← hwK7]
                clear hwK7
                refine wpZ_one (i := 19) (by kernel_rfl) rfl (fun K hK => ?_)
                have cS := b17_7.cell; have fS := b17_7.frozen
                go_simp
                refine hK.out _ _ (fun _ => bSet4 (hSK7) lN17_4 _ _ _ _) ?_
                clear hK K cS fS
                obtain ⟨wK8, hwK8⟩ : ∃ x : World, x = ((((wK7.setCell ⟨N17_4, 0, none⟩ (.int .u64 ((limb 0 u2 : Nat) : Int))).setCell ⟨N17_4, 1, none⟩ (.int .u64 ((limb 1 u2 : Nat) : Int))).setCell ⟨N17_4, 2, none⟩ (.int .u64 ((limb 2 u2 : Nat) : Int))).setCell ⟨N17_4, 3, none⟩ (.int .u64 ((limb 3 u2 : Nat) : Int))) := ⟨_, rfl⟩
                have hSK8 : Below w4.heap.size w4 wK8 := by rw [hwK8]; exact bSet4 (hSK7) lN17_4 _ _ _ _
                have b16_8 : Blk wK8 24 N16_1 (fun i => limb i u1) := by rw [hwK8]; exact b16_7.other4 (by omega) _ _ _ _
                have b17_8 : Blk wK8 24 N17_4 (fun i => limb i u2) := by rw [hwK8]; exact b17_7.set4 (fun i => limb i u2)
                rw [← hwK8]
                clear hwK8
                refine wpZ_done (by kernel_rfl) ?_ _
                go_wp2_with fail
                go_meet
                exact ⟨_, _, rfl, rfl, hSK8, b16_8, b17_8⟩
            · go_simp
              have hSK3' : Below w4.heap.size w4 (wK2.alloc (.cells #[.int .u64 0, .int .u64 0, .int .u64 0, .int .u64 0] 24)) := bAlloc (hSK2) _
              refine hK.out _ _ (fun _ => hSK3') ?_
              clear hK K
              obtain ⟨N17_3, hN17_3⟩ : ∃ N, N = wK2.heap.size := ⟨_, rfl⟩
              obtain ⟨wK3, hwK3⟩ : ∃ x : World, x = wK2.alloc (.cells #[.int .u64 0, .int .u64 0, .int .u64 0, .int .u64 0] 24) := ⟨_, rfl⟩
              have hSK3 : Below w4.heap.size w4 wK3 := by rw [hwK3]; exact hSK3'
              have b17_3 : Blk wK3 24 N17_3 (fun _ => 0) := by rw [hwK3, hN17_3]; exact Blk.new wK2 24 (fun _ => 0)
              have lN17_3 : w4.heap.size ≤ N17_3 := by rw [hN17_3]; exact (hSK2).size
              have b16_3 : Blk wK3 24 N16_1 (fun _ => 0) := by rw [hwK3]; exact b16_2.alloc _
              have neN16_1_N17_3 : N16_1 ≠ N17_3 := by have := b16_2.lt; omega
              rw [← hwK3, ← hN17_3]
              clear hwK3 hSK3' hN17_3
              refine wpZ_one (i := 7) (by kernel_rfl) rfl (fun K hK => ?_)
              go_simp
              refine (C4.out wK3 (HGa.out.below (hSK3))).mono ?_
              rintro e wK4 ⟨rfl, hbK4⟩
              have hSK4 : Below w4.heap.size w4 wK4 := bStep (hSK3) hbK4
              go_wp2_with fail
              refine hK.out _ _ (fun _ => hSK4) ?_
              clear hK K
              have b16_4 := b16_3.belowAll hbK4
              have b17_4 := b17_3.belowAll hbK4
              refine wpZ_one (i := 14) (by kernel_rfl) rfl (fun K hK => ?_)
              go_simp
              refine (C3.out wK4 (HGa.out.below (hSK4)) (rk.belowAll (hSK4))).mono ?_
              rintro e wK5 ⟨rfl, hbK5⟩
              have hSK5 : Below w4.heap.size w4 wK5 := bStep (hSK4) hbK5
              go_wp2_with fail
              refine hK.out _ _ (fun _ => hSK5) ?_
              clear hK K
              have b16_5 := b16_4.belowAll hbK5
              have b17_5 := b17_4.belowAll hbK5
              refine wpZ_one (i := 15) (by kernel_rfl) rfl (fun K hK => ?_)
              go_simp
              refine (C5.out wK5 (HGa.out.below (hSK5))).mono ?_
              rintro e wK6 ⟨rfl, hbK6⟩
              have hSK6 : Below w4.heap.size w4 wK6 := bStep (hSK5) hbK6
              go_wp2_with fail
              refine hK.out _ _ (fun _ => hSK6) ?_
              clear hK K
              have b16_6 := b16_5.belowAll hbK6
              have b17_6 := b17_5.belowAll hbK6
              refine wpZ_one (i := 18) (by kernel_rfl) rfl (fun K hK => ?_)
              have cS := b16_6.cell; have fS := b16_6.frozen
              go_simp
              refine hK.out _ _ (fun _ => bSet4 (hSK6) lN16_1 _ _ _ _) ?_
              clear hK K cS fS
              obtain ⟨wK7, hwK7⟩ : ∃ x : World, x = ((((wK6.setCell ⟨N16_1, 0, none⟩ (.int .u64 ((limb 0 u1 : Nat) : Int))).setCell ⟨N16_1, 1, none⟩ (.int .u64 ((limb 1 u1 : Nat) : Int))).setCell ⟨N16_1, 2, none⟩ (.int .u64 ((limb 2 u1 : Nat) : Int))).setCell ⟨N16_1, 3, none⟩ (.int .u64 ((limb 3 u1 : Nat) : Int))) := ⟨_, rfl⟩
              have hSK7 : Below w4.heap.size w4 wK7 := by rw [hwK7]; exact bSet4 (hSK6) lN16_1 _ _ _ _
              have b16_7 : Blk wK7 24 N16_1 (fun i => limb i u1) := by rw [hwK7]; exact b16_6.set4 (fun i => limb i u1)
              have b17_7 : Blk wK7 24 N17_3 (fun _ => 0) := by rw [hwK7]; exact b17_6.other4 (by omega) _ _ _ _
              rw [← hwK7]
              clear hwK7
              refine wpZ_one (i := 19) (by kernel_rfl) rfl (fun K hK => ?_)
              have cS := b17_7.cell; have fS := b17_7.frozen
              go_simp
              refine hK.out _ _ (fun _ => bSet4 (hSK7) lN17_3 _ _ _ _) ?_
              clear hK K cS fS
              obtain ⟨wK8, hwK8⟩ : ∃ x : World, x = ((((wK7.setCell ⟨N17_3, 0, none⟩ (.int .u64 ((limb 0 u2 : Nat) : Int))).setCell ⟨N17_3, 1, none⟩ (.int .u64 ((limb 1 u2 : Nat) : Int))).setCell ⟨N17_3, 2, none⟩ (.int .u64 ((limb 2 u2 : Nat) : Int))).setCell ⟨N17_3, 3, none⟩ (.int .u64 ((limb 3 u2 : Nat) : Int))) := ⟨_, rfl⟩
              have hSK8 : Below w4.heap.size w4 wK8 := by rw [hwK8]; exact bSet4 (hSK7) lN17_3 _ _ _ _
              have b16_8 : Blk wK8 24 N16_1 (fun i => limb i u1) := by rw [hwK8]; exact b16_7.other4 (by omega) _ _ _ _
              have b17_8 : Blk wK8 24 N17_3 (fun i => limb i u2) := by rw [hwK8]; exact b17_7.set4 (fun i => limb i u2)
              rw [← hwK8]
              clear hwK8
              refine wpZ_done (by kernel_rfl) ?_ _
              go_wp2_with fail
              go_meet
              exact ⟨_, _, rfl, rfl, hSK8, b16_8, b17_8⟩
          · go_simp
            have hSK2' : Below w4.heap.size w4 (wK1.alloc (.cells #[.int .u64 0, .int .u64 0, .int .u64 0, .int .u64 0] 24)) := bAlloc (hSK1) _
            refine hK.out _ _ (fun _ => hSK2') ?_
            clear hK K
            obtain ⟨N17_2, hN17_2⟩ : ∃ N, N = wK1.heap.size := ⟨_, rfl⟩
            obtain ⟨wK2, hwK2⟩ : ∃ x : World, x = wK1.alloc (.cells #[.int .u64 0, .int .u64 0, .int .u64 0, .int .u64 0] 24) := ⟨_, rfl⟩
            have hSK2 : Below w4.heap.size w4 wK2 := by rw [hwK2]; exact hSK2'
            have b17_2 : Blk wK2 24 N17_2 (fun _ => 0) := by rw [hwK2, hN17_2]; exact Blk.new wK1 24 (fun _ => 0)
            have lN17_2 : w4.heap.size ≤ N17_2 := by rw [hN17_2]; exact (hSK1).size
            have b16_2 : Blk wK2 24 N16_1 (fun _ => 0) := by rw [hwK2]; exact b16_1.alloc _
            have neN16_1_N17_2 : N16_1 ≠ N17_2 := by have := b16_1.lt; omega
            rw [← hwK2, ← hN17_2]
            clear hwK2 hSK2' hN17_2
            refine wpZ_one (i := 6) (by kernel_rfl) rfl (fun K hK => ?_)
            go_simp
            refine (C2.out wK2 (HGa.out.below (hSK2)) (rk.belowAll (hSK2))).mono ?_
            rintro e wK3 ⟨rfl, hbK3⟩
            have hSK3 : Below w4.heap.size w4 wK3 := bStep (hSK2) hbK3
            go_wp2_with fail
            refine hK.out _ _ (fun _ => hSK3) ?_
            clear hK K
            have b16_3 := b16_2.belowAll hbK3
            have b17_3 := b17_2.belowAll hbK3
            refine wpZ_one (i := 7) (by kernel_rfl) rfl (fun K hK => ?_)
            go_simp
            refine (C4.out wK3 (HGa.out.below (hSK3))).mono ?_
            rintro e wK4 ⟨rfl, hbK4⟩
            have hSK4 : Below w4.heap.size w4 wK4 := bStep (hSK3) hbK4
            go_wp2_with fail
            refine hK.out _ _ (fun _ => hSK4) ?_
            clear hK K
            have b16_4 := b16_3.belowAll hbK4
            have b17_4 := b17_3.belowAll hbK4
            refine wpZ_one (i := 14) (by kernel_rfl) rfl (fun K hK => ?_)
            go_simp
            refine (C3.out wK4 (HGa.out.below (hSK4)) (rk.belowAll (hSK4))).mono ?_
            rintro e wK5 ⟨rfl, hbK5⟩
            have hSK5 : Below w4.heap.size w4 wK5 := bStep (hSK4) hbK5
            go_wp2_with fail
            refine hK.out _ _ (fun _ => hSK5) ?_
            clear hK K
            have b16_5 := b16_4.belowAll hbK5
            have b17_5 := b17_4.belowAll hbK5
            refine wpZ_one (i := 15) (by kernel_rfl) rfl (fun K hK => ?_)
            go_simp
            refine (C5.out wK5 (HGa.out.below (hSK5))).mono ?_
            rintro e wK6 ⟨rfl, hbK6⟩
            have hSK6 : Below w4.heap.size w4 wK6 := bStep (hSK5) hbK6
            go_wp2_with fail
            refine hK.out _ _ (fun _ => hSK6) ?_
            clear hK K
            have b16_6 := b16_5.belowAll hbK6
            have b17_6 := b17_5.belowAll hbK6
            refine wpZ_one (i := 18) (by kernel_rfl) rfl (fun K hK => ?_)
            have cS := b16_6.cell; have fS := b16_6.frozen
            go_simp
            refine hK.out _ _ (fun _ => bSet4 (hSK6) lN16_1 _ _ _ _) ?_
            clear hK K cS fS
            obtain ⟨wK7, hwK7⟩ : ∃ x : World, x = ((((wK6.setCell ⟨N16_1, 0, none⟩ (.int .u64 ((limb 0 u1 : Nat) : Int))).setCell ⟨N16_1, 1, none⟩ (.int .u64 ((limb 1 u1 : Nat) : Int))).setCell ⟨N16_1, 2, none⟩ (.int .u64 ((limb 2 u1 : Nat) : Int))).setCell ⟨N16_1, 3, none⟩ (.int .u64 ((limb 3 u1 : Nat) : Int))) := ⟨_, rfl⟩
            have hSK7 : Below w4.heap.size w4 wK7 := by rw [hwK7]; exact bSet4 (hSK6) lN16_1 _ _ _ _
            have b16_7 : Blk wK7 24 N16_1 (fun i => limb i u1) := by rw [hwK7]; exact b16_6.set4 (fun i => limb i u1)
            have b17_7 : Blk wK7 24 N17_2 (fun _ => 0) := by rw [hwK7]; exact b17_6.other4 (by omega) _ _ _ _
            rw [← hwK7]
            clear hwK7
            refine wpZ_one (i := 19) (by kernel_rfl) rfl (fun K hK => ?_)
            have cS := b17_7.cell; have fS := b17_7.frozen
            go_simp
            refine hK.out _ _ (fun _ => bSet4 (hSK7) lN17_2 _ _ _ _) ?_
            clear hK K cS fS
            obtain ⟨wK8, hwK8⟩ : ∃ x : World, x = ((((wK7.setCell ⟨N17_2, 0, none⟩ (.int .u64 ((limb 0 u2 : Nat) : Int))).setCell ⟨N17_2, 1, none⟩ (.int .u64 ((limb 1 u2 : Nat) : Int))).setCell ⟨N17_2, 2, none⟩ (.int .u64 ((limb 2 u2 : Nat) : Int))).setCell ⟨N17_2, 3, none⟩ (.int .u64 ((limb 3 u2 : Nat) : Int))) := ⟨_, rfl⟩
            have hSK8 : Below w4.heap.size w4 wK8 := by rw [hwK8]; exact bSet4 (hSK7) lN17_2 _ _ _ _
            have b16_8 : Blk wK8 24 N16_1 (fun i => limb i u1) := by rw [hwK8]; exact b16_7.other4 (by omega) _ _ _ _
            have b17_8 : Blk wK8 24 N17_2 (fun i => limb i u2) := by rw [hwK8]; exact b17_7.set4 (fun i => limb i u2)
            rw [← hwK8]
            clear hwK8
            refine wpZ_done (by kernel_rfl) ?_ _
            go_wp2_with fail
            go_meet
            exact ⟨_, _, rfl, rfl, hSK8, b16_8, b17_8⟩
        · go_simp
          have hSK1' : Below w4.heap.size w4 ((w4.alloc (.cells #[.int .u64 0, .int .u64 0, .int .u64 0, .int .u64 0] 24)).drew) := (bAlloc (Below.refl _ _) _).drew
          refine hK.out _ _ (fun _ => hSK1') ?_
          clear hK K
          obtain ⟨N17_1, hN17_1⟩ : ∃ N, N = w4.heap.size := ⟨_, rfl⟩
          obtain ⟨wK1, hwK1⟩ : ∃ x : World, x = (w4.alloc (.cells #[.int .u64 0, .int .u64 0, .int .u64 0, .int .u64 0] 24)).drew := ⟨_, rfl⟩
          have hSK1 : Below w4.heap.size w4 wK1 := by rw [hwK1]; exact hSK1'
          have b17_1 : Blk wK1 24 N17_1 (fun _ => 0) := by rw [hwK1, hN17_1]; exact (Blk.new w4 24 (fun _ => 0)).drew
          have lN17_1 : w4.heap.size ≤ N17_1 := by rw [hN17_1]; exact (HS0.out).size
          rw [← hwK1, ← hN17_1]
          clear hwK1 hSK1' hN17_1
          refine wpZ_two (i := 6) (j := 16) (by kernel_rfl) rfl rfl (fun K hK => ?_) (fun K hK => ?_) 
          · go_simp
            refine (C2.out wK1 (HGa.out.below (hSK1)) (rk.belowAll (hSK1))).mono ?_
            rintro e wK2 ⟨rfl, hbK2⟩
            have hSK2 : Below w4.heap.size w4 wK2 := bStep (hSK1) hbK2
            go_wp2_with fail
            refine hK.out _ _ (fun _ => hSK2) ?_
            clear hK K
            have b17_2 := b17_1.belowAll hbK2
            refine wpZ_two (i := 7) (j := 16) (by kernel_rfl) rfl rfl (fun K hK => ?_) (fun K hK => ?_) 
            · go_simp
              refine (C4.out wK2 (HGa.out.below (hSK2))).mono ?_
              rintro e wK3 ⟨rfl, hbK3⟩
              have hSK3 : Below w4.heap.size w4 wK3 := bStep (hSK2) hbK3
              go_wp2_with fail
              refine hK.out _ _ (fun _ => hSK3) ?_
              clear hK K
              have b17_3 := b17_2.belowAll hbK3
              refine wpZ_two (i := 14) (j := 16) (by kernel_rfl) rfl rfl (fun K hK => ?_) (fun K hK => ?_) 
              · go_simp
                refine (C3.out wK3 (HGa.out.below (hSK3)) (rk.belowAll (hSK3))).mono ?_
                rintro e wK4 ⟨rfl, hbK4⟩
                have hSK4 : Below w4.heap.size w4 wK4 := bStep (hSK3) hbK4
                go_wp2_with fail
                refine hK.out _ _ (fun _ => hSK4) ?_
                clear hK K
                have b17_4 := b17_3.belowAll hbK4
                refine wpZ_two (i := 15) (j := 16) (by kernel_rfl) rfl rfl (fun K hK => ?_) (fun K hK => ?_) 
                · go_simp
                  refine (C5.out wK4 (HGa.out.below (hSK4))).mono ?_
                  rintro e wK5 ⟨rfl, hbK5⟩
                  have hSK5 : Below w4.heap.size w4 wK5 := bStep (hSK4) hbK5
                  go_wp2_with fail
                  refine hK.out _ _ (fun _ => hSK5) ?_
                  clear hK K
                  have b17_5 := b17_4.belowAll hbK5
                  refine wpZ_one (i := 16) (by kernel_rfl) rfl (fun K hK => ?_)
                  go_simp
                  have hSK6' : Below w4.heap.size w4 (wK5.alloc (.cells #[.int .u64 0, .int .u64 0, .int .u64 0, .int .u64 0] 24)) := bAlloc (hSK5) _
                  refine hK.out _ _ (fun _ => hSK6') ?_
                  clear hK K
                  obtain ⟨N16_6, hN16_6⟩ : ∃ N, N = wK5.heap.size := ⟨_, rfl⟩
                  obtain ⟨wK6, hwK6⟩ : ∃ x : World, x = wK5.alloc (.cells #[.int .u64 0, .int .u64 0, .int .u64 0, .int .u64 0] 24) := ⟨_, rfl⟩
                  have hSK6 : Below w4.heap.size w4 wK6 := by rw [hwK6]; exact hSK6'
                  have b16_6 : Blk wK6 24 N16_6 (fun _ => 0) := by rw [hwK6, hN16_6]; exact Blk.new wK5 24 (fun _ => 0)
                  have lN16_6 : w4.heap.size ≤ N16_6 := by rw [hN16_6]; exact (hSK5).size
                  have b17_6 : Blk wK6 24 N17_1 (fun _ => 0) := by rw [hwK6]; exact b17_5.alloc _
                  have neN17_1_N16_6 : N17_1 ≠ N16_6 := by have := b17_5.lt; omega
                  rw [← hwK6, ← hN16_6]
                  clear hwK6 hSK6' hN16_6
                  refine wpZ_one (i := 18) (by kernel_rfl) rfl (fun K hK => ?_)
                  have cS := b16_6.cell; have fS := b16_6.frozen
                  go_simp
                  refine hK.out _ _ (fun _ => bSet4 (hSK6) lN16_6 _ _ _ _) ?_
                  clear hK K cS fS
                  obtain ⟨wK7, hwK7⟩ : ∃ x : World, x = ((((wK6.setCell ⟨N16_6, 0, none⟩ (.int .u64 ((limb 0 u1 : Nat) : Int))).setCell ⟨N16_6, 1, none⟩ (.int .u64 ((limb 1 u1 : Nat) : Int))).setCell ⟨N16_6, 2, none⟩ (.int .u64 ((limb 2 u1 : Nat) : Int))).setCell ⟨N16_6, 3, none⟩ (.int .u64 ((limb 3 u1 : Nat) : Int))) := ⟨_, rfl⟩
                  have hSK7 : Below w4.heap.size w4 wK7 := by rw [hwK7]; exact bSet4 (hSK6) lN16_6 _ _ _ _
                  have b17_7 : Blk wK7 24 N17_1 (fun _ => 0) := by rw [hwK7]; exact b17_6.other4 (by omega) _ _ _ _
                  have b16_7 : Blk wK7 24 N16_6 (fun i => limb i u1) := by rw [hwK7]; exact b16_6.set4 (fun i => limb i u1)
                  rw [← hwK7]
                  clear hwK7
                  refine wpZ_one (i := 19) (by kernel_rfl) rfl (fun K hK => ?_)
                  have cS := b17_7.cell; have fS := b17_7.frozen
                  go_simp
                  refine hK.out _ _ (fun _ => bSet4 (hSK7) lN17_1 _ _ _ _) ?_
                  clear hK K cS fS
                  obtain ⟨wK8, hwK8⟩ : ∃ x : World, x = ((((wK7.setCell ⟨N17_1, 0, none⟩ (.int .u64 ((limb 0 u2 : Nat) : Int))).setCell ⟨N17_1, 1, none⟩ (.int .u64 ((limb 1 u2 : Nat) : Int))).setCell ⟨N17_1, 2, none⟩ (.int .u64 ((limb 2 u2 : Nat) : Int))).setCell ⟨N17_1, 3, none⟩ (.int .u64 ((limb 3 u2 : Nat) : Int))) := ⟨_, rfl⟩
                  have hSK8 : Below w4.heap.size w4 wK8 := by rw [hwK8]; exact bSet4 (hSK7) lN17_1 _ _ _ _
                  have b17_8 : Blk wK8 24 N17_1 (fun i => limb i u2) := by rw [hwK8]; exact b17_7.set4 (fun i => limb i u2)
                  have b16_8 : Blk wK8 24 N16_6 (fun i => limb i u1) := by rw [hwK8]; exact b16_7.other4 (by omega) _ _ _ _
                  rw [← hwK8]
                  clear hwK8
                  refine wpZ_done (by kernel_rfl) ?_ _
                  go_wp2_with fail
                  go_meet
                  exact ⟨_, _, rfl, rfl, hSK8, b16_8, b17_8⟩
                · go_simp
                  have hSK5' : Below w4.heap.size w4 (wK4.alloc (.cells #[.int .u64 0, .int .u64 0, .int .u64 0, .int .u64 0] 24)) := bAlloc (hSK4) _
                  refine hK.out _ _ (fun _ => hSK5') ?_
                  clear hK K
                  obtain ⟨N16_5, hN16_5⟩ : ∃ N, N = wK4.heap.size := ⟨_, rfl⟩
                  obtain ⟨wK5, hwK5⟩ : ∃ x : World, x = wK4.alloc (.cells #[.int .u64 0, .int .u64 0, .int .u64 0, .int .u64 0] 24) := ⟨_, rfl⟩
                  have hSK5 : Below w4.heap.size w4 wK5 := by rw [hwK5]; exact hSK5'
                  have b16_5 : Blk wK5 24 N16_5 (fun _ => 0) := by rw [hwK5, hN16_5]; exact Blk.new wK4 24 (fun _ => 0)
                  have lN16_5 : w4.heap.size ≤ N16_5 := by rw [hN16_5]; exact (hSK4).size
                  have b17_5 : Blk wK5 24 N17_1 (fun _ => 0) := by rw [hwK5]; exact b17_4.alloc _
                  have neN17_1_N16_5 : N17_1 ≠ N16_5 := by have := b17_4.lt; omega
                  rw [← hwK5, ← hN16_5]
                  clear hwK5 hSK5' hN16_5
                  refine wpZ_one (i := 15) (by kernel_rfl) rfl (fun K hK => ?_)
                  go_simp
                  refine (C5.out wK5 (HGa.out.below (hSK5))).mono ?_
                  rintro e wK6 ⟨rfl, hbK6⟩
                  have hSK6 : Below w4.heap.size w4 wK6 := bStep (hSK5) hbK6
                  go_wp2_with fail
                  refine hK.out _ _ (fun _ => hSK6) ?_
                  clear hK K
                  have b17_6 := b17_5.belowAll hbK6
                  have b16_6 := b16_5.belowAll hbK6
                  refine wpZ_one (i := 18) (by kernel_rfl) rfl (fun K hK => ?_)
                  have cS := b16_6.cell; have fS := b16_6.frozen
                  go_simp
                  refine hK.out _ _ (fun _ => bSet4 (hSK6) lN16_5 _ _ _ _) ?_
                  clear hK K cS fS
                  obtain ⟨wK7, hwK7⟩ : ∃ x : World, x = ((((wK6.setCell ⟨N16_5, 0, none⟩ (.int .u64 ((limb 0 u1 : Nat) : Int))).setCell ⟨N16_5, 1, none⟩ (.int .u64 ((limb 1 u1 : Nat) : Int))).setCell ⟨N16_5, 2, none⟩ (.int .u64 ((limb 2 u1 : Nat) : Int))).setCell ⟨N16_5, 3, none⟩ (.int .u64 ((limb 3 u1 : Nat) : Int))) := ⟨_, rfl⟩
                  have hSK7 : Below w4.heap.size w4 wK7 := by rw [hwK7]; exact bSet4 (hSK6) lN16_5 _ _ _ _
                  have b17_7 : Blk wK7 24 N17_1 (fun _ => 0) := by rw [hwK7]; exact b17_6.other4 (by omega) _ _ _ _
                  have b16_7 : Blk wK7 24 N16_5 (fun i => limb i u1) := by rw [hwK7]; exact b16_6.set4 (fun i => limb i u1)
                  rw [← hwK7]
                  clear hwK7
                  refine wpZ_one (i := 19) (by kernel_rfl) rfl (fun K hK => ?_)
                  have cS := b17_7.cell; have fS := b17_7.frozen
                  go_simp
                  refine hK.out _ _ (fun _ => bSet4 (hSK7) lN17_1 _ _ _ _) ?_
                  clear hK K cS fS
                  obtain ⟨wK8, hwK8⟩ : ∃ x : World, x = ((((wK7.setCell ⟨N17_1, 0, none⟩ (.int .u64 ((limb 0 u2 : Nat) : Int))).setCell ⟨N17_1, 1, none⟩ (.int .u64 ((limb 1 u2 : Nat) : Int))).setCell ⟨N17_1, 2, none⟩ (.int .u64 ((limb 2 u2 : Nat) : Int))).setCell ⟨N17_1, 3, none⟩ (.int .u64 ((limb 3 u2 : Nat) : Int))) := ⟨_, rfl⟩
                  have hSK8 : Below w4.heap.size w4 wK8 := by rw [hwK8]; exact bSet4 (hSK7) lN17_1 _ _ _ _
                  have b17_8 : Blk wK8 24 N17_1 (fun i => limb i u2) := by rw [hwK8]; exact b17_7.set4 (fun i => limb i u2)
                  have b16_8 : Blk wK8 24 N16_5 (fun i => limb i u1) := by rw [hwK8]; exact b16_7.other4 (by omega) _ _ _ _
                  rw [← hwK8]
                  clear hwK8
                  refine wpZ_done (by kernel_rfl) ?_ _
                  go_wp2_with fail
                  go_meet
                  exact ⟨_, _, rfl, rfl, hSK8, b16_8, b17_8⟩
              · go_simp
                have hSK4' : Below w4.heap.size w4 (wK3.alloc (.cells #[.int .u64 0, .int .u64 0, .int .u64 0, .int .u64 0] 24)) := bAlloc (hSK3) _
                refine hK.out _ _ (fun _ => hSK4') ?_
                clear hK K
                obtain ⟨N16_4, hN16_4⟩ : ∃ N, N = wK3.heap.size := ⟨_, rfl⟩
                obtain ⟨wK4, hwK4⟩ : ∃ x : World, x = wK3.alloc (.cells #[.int .u64 0, .int .u64 0, .int .u64 0, .int .u64 0] 24) := ⟨_, rfl⟩
                have hSK4 : Below w4.heap.size w4 wK4 := by rw [hwK4]; exact hSK4'
                have b16_4 : Blk wK4 24 N16_4 (fun _ => 0) := by rw [hwK4, hN16_4]; exact Blk.new wK3 24 (fun _ => 0)
                have lN16_4 : w4.heap.size ≤ N16_4 := by rw [hN16_4]; exact (hSK3).size
                have b17_4 : Blk wK4 24 N17_1 (fun _ => 0) := by rw [hwK4]; exact b17_3.alloc _
                have neN17_1_N16_4 : N17_1 ≠ N16_4 := by have := b17_3.lt; omega
                rw [← hwK4, ← hN16_4]
                clear hwK4 hSK4' hN16_4
                refine wpZ_one (i := 14) (by kernel_rfl) rfl (fun K hK => ?_)
                go_simp
                refine (C3.out wK4 (HGa.out.below (hSK4)) (rk.belowAll (hSK4))).mono ?_
                rintro e wK5 ⟨rfl, hbK5⟩
                have hSK5 : Below w4.heap.size w4 wK5 := bStep (hSK4) hbK5
                go_wp2_with fail
                refine hK.out _ _ (fun _ => hSK5) ?_
                clear hK K
                have b17_5 := b17_4.belowAll hbK5
                have b16_5 := b16_4.belowAll hbK5
                refine wpZ_one (i := 15) (by kernel_rfl) rfl (fun K hK => ?_)
                go_simp
                refine (C5.out wK5 (HGa.out.below (hSK5))).mono ?_
                rintro e wK6 ⟨rfl, hbK6⟩
                have hSK6 : Below w4.heap.size w4 wK6 := bStep (hSK5) hbK6
                go_wp2_with fail
                refine hK.out _ _ (fun _ => hSK6) ?_
                clear hK K
                have b17_6 := b17_5.belowAll hbK6
                have b16_6 := b16_5.belowAll hbK6
                refine wpZ_one (i := 18) (by kernel_rfl) rfl (fun K hK => ?_)
                have cS := b16_6.cell; have fS := b16_6.frozen
                go_simp
                refine hK.out _ _ (fun _ => bSet4 (hSK6) lN16_4 _ _ _ _) ?_
                clear hK K cS fS
                obtain ⟨wK7, hwK7⟩ : ∃ x : World, x = ((((wK6.setCell ⟨N16_4, 0, none⟩ (.int .u64 ((limb 0 u1 : Nat) : Int))).setCell ⟨N16_4, 1, none⟩ (.int .u64 ((limb 1 u1 : Nat) : Int))).setCell ⟨N16_4, 2, none⟩ (.int .u64 ((limb 2 u1 : Nat) : Int))).setCell ⟨N16_4, 3, none⟩ (.int .u64 ((limb 3 u1 : Nat) : Int))) := ⟨_, rfl⟩
                have hSK7 : Below w4.heap.size w4 wK7 := by rw [hwK7]; exact bSet4 (hSK6) lN16_4 _ _ _ _
                have b17_7 : Blk wK7 24 N17_1 (fun _ => 0) := by rw [hwK7]; exact b17_6.other4 (by omega) _ _ _ _
                have b16_7 : Blk wK7 24 N16_4 (fun i => limb i u1) := by rw [hwK7]; exact b16_6.set4 (fun i => limb i u1)
                rw [← hwK7]
                clear hwK7
                refine wpZ_one (i := 19) (by kernel_rfl) rfl (fun K hK => ?_)
                have cS := b17_7.cell; have fS := b17_7.frozen
                go_simp
                refine hK.out _ _ (fun _ => bSet4 (hSK7) lN17_1 _ _ _ _) ?_
                clear hK K cS fS
                obtain ⟨wK8, hwK8⟩ : ∃ x : World, x = ((((wK7.setCell ⟨N17_1, 0, none⟩ (.int .u64 ((limb 0 u2 : Nat) : Int))).setCell ⟨N17_1, 1, none⟩ (.int .u64 ((limb 1 u2 : Nat) : Int))).setCell ⟨N17_1, 2, none⟩ (.int .u64 ((limb 2 u2 : Nat) : Int))).setCell ⟨N17_1, 3, none⟩ (.int .u64 ((limb 3 u2 : Nat) : Int))) := ⟨_, rfl⟩
                have hSK8 : Below w4.heap.size w4 wK8 := by rw [hwK8]; exact bSet4 (hSK7) lN17_1 _ _ _ _
                have b17_8 : Blk wK8 24 N17_1 (fun i => limb i u2) := by rw [hwK8]; exact b17_7.set4 (fun i => limb i u2)
                have b16_8 : Blk wK8 24 N16_4 (fun i => limb i u1) := by rw [hwK8]; exact b16_7.other4 (by omega) _ _ _ _
                rw [← hwK8]
                clear hwK8
                refine wpZ_done (by kernel_rfl) ?_ _
                go_wp2_with fail
                go_meet
                exact ⟨_, _, rfl, rfl, hSK8, b16_8, b17_8⟩
            · go_simp
              have hSK3' : Below w4.heap.size w4 (wK2.alloc (.cells #[.int .u64 0, .int .u64 0, .int .u64 0, .int .u64 0] 24)) := bAlloc (hSK2) _
              refine hK.out _ _ (fun _ => hSK3') ?_
              clear hK K
              obtain ⟨N16_3, hN16_3⟩ : ∃ N, N = wK2.heap.size := ⟨_, rfl⟩
              obtain ⟨wK3, hwK3⟩ : ∃ x : World, x = wK2.alloc (.cells #[.int .u64 0, .int .u64 0, .int .u64 0, .int .u64 0] 24) := ⟨_, rfl⟩
              have hSK3 : Below w4.heap.size w4 wK3 := by rw [hwK3]; exact hSK3'
              have b16_3 : Blk wK3 24 N16_3 (fun _ => 0) := by rw [hwK3, hN16_3]; exact Blk.new wK2 24 (fun _ => 0)
              have lN16_3 : w4.heap.size ≤ N16_3 := by rw [hN16_3]; exact (hSK2).size
              have b17_3 : Blk wK3 24 N17_1 (fun _ => 0) := by rw [hwK3]; exact b17_2.alloc _
              have neN17_1_N16_3 : N17_1 ≠ N16_3 := by have := b17_2.lt; omega
              rw [← hwK3, ← hN16_3]
              clear hwK3 hSK3' hN16_3
              refine wpZ_one (i := 7) (by kernel_rfl) rfl (fun K hK => ?_)
              go_simp
              refine (C4.out wK3 (HGa.out.below (hSK3))).mono ?_
              rintro e wK4 ⟨rfl, hbK4⟩
              have hSK4 : Below w4.heap.size w4 wK4 := bStep (hSK3) hbK4
              go_wp2_with fail
              refine hK.out _ _ (fun _ => hSK4) ?_
              clear hK K
              have b17_4 := b17_3.belowAll hbK4
              have b16_4 := b16_3.belowAll hbK4
              refine wpZ_one (i := 14) (by kernel_rfl) rfl (fun K hK => ?_)
              go_simp
              refine (C3.out wK4 (HGa.out.below (hSK4)) (rk.belowAll (hSK4))).mono ?_
              rintro e wK5 ⟨rfl, hbK5⟩
              have hSK5 : Below w4.heap.size w4 wK5 := bStep (hSK4) hbK5
              go_wp2_with fail
              refine hK.out _ _ (fun _ => hSK5) ?_
              clear hK K
              have b17_5 := b17_4.belowAll hbK5
              have b16_5 := b16_4.belowAll hbK5
              refine wpZ_one (i := 15) (by kernel_rfl) rfl (fun K hK => ?_)
              go_simp
              refine (C5.out wK5 (HGa.out.below (hSK5))).mono ?_
              rintro e wK6 ⟨rfl, hbK6⟩
              have hSK6 : Below w4.heap.size w4 wK6 := bStep (hSK5) hbK6
              go_wp2_with fail
              refine hK.out _ _ (fun _ => hSK6) ?_
              clear hK K
              have b17_6 := b17_5.belowAll hbK6
              have b16_6 := b16_5.belowAll hbK6
              refine wpZ_one (i := 18) (by kernel_rfl) rfl (fun K hK => ?_)
              have cS := b16_6.cell; have fS := b16_6.frozen
              go_simp
              refine hK.out _ _ (fun _ => bSet4 (hSK6) lN16_3 _ _ _ _) ?_
              clear hK K cS fS
              obtain ⟨wK7, hwK7⟩ : ∃ x : World, x = ((((wK6.setCell ⟨N16_3, 0, none⟩ (.int .u64 ((limb 0 u1 : Nat) : Int))).setCell ⟨N16_3, 1, none⟩ (.int .u64 ((limb 1 u1 : Nat) : Int))).setCell ⟨N16_3, 2, none⟩ (.int .u64 ((limb 2 u1 : Nat) : Int))).setCell ⟨N16_3, 3, none⟩ (.int .u64 ((limb 3 u1 : Nat) : Int))) := ⟨_, rfl⟩
              have hSK7 : Below w4.heap.size w4 wK7 := by rw [hwK7]; exact bSet4 (hSK6) lN16_3 _ _ _ _
              have b17_7 : Blk wK7 24 N17_1 (fun _ => 0) := by rw [hwK7]; exact b17_6.other4 (by omega) _ _ _ _
              have b16_7 : Blk wK7 24 N16_3 (fun i => limb i u1) := by rw [hwK7]; exact b16_6.set4 (fun i => limb i u1)
              rw [← hwK7]
              clear hwK7
              refine wpZ_one (i := 19) (by kernel_rfl) rfl (fun K hK => ?_)
              have cS := b17_7.cell; have fS := b17_7.frozen
              go_simp
              refine hK.out _ _ (fun _ => bSet4 (hSK7) lN17_1 _ _ _ _) ?_
              clear hK K cS fS
              obtain ⟨wK8, hwK8⟩ : ∃ x : World, x = ((((wK7.setCell ⟨N17_1, 0, none⟩ (.int .u64 ((limb 0 u2 : Nat) : Int))).setCell ⟨N17_1, 1, none⟩ (.int .u64 ((limb 1 u2 : Nat) : Int))).setCell ⟨N17_1, 2, none⟩ (.int .u64 ((limb 2 u2 : Nat) : Int))).setCell ⟨N17_1, 3, none⟩ (.int .u64 ((limb 3 u2 : Nat) : Int))) := ⟨_, rfl⟩
              have hSK8 : Below w4.heap.size w4 wK8 := by rw [hwK8]; exact bSet4 (hSK7) lN17_1 _ _ _ _
              have b17_8 : Blk wK8 24 N17_1 (fun i => limb i u2) := by rw [hwK8]; exact b17_7.set4 (fun i => limb i u2)
              have b16_8 : Blk wK8 24 N16_3 (fun i => limb i u1) := by rw [hwK8]; exact b16_7.other4 (by omega) _ _ _ _
              rw [← hwK8]
              clear hwK8
              refine wpZ_done (by kernel_rfl) ?_ _
              go_wp2_with fail
              go_meet
              exact ⟨_, _, rfl, rfl, hSK8, b16_8, b17_8⟩
          · go_simp
            have hSK2' : Below w4.heap.size w4 (wK1.alloc (.cells #[.int .u64 0, .int .u64 0, .int .u64 0, .int .u64 0] 24)) := bAlloc (hSK1) _
            refine hK.out _ _ (fun _ => hSK2') ?_
            clear hK K
            obtain ⟨N16_2, hN16_2⟩ : ∃ N, N = wK1.heap.size := ⟨_, rfl⟩
            obtain ⟨wK2, hwK2⟩ : ∃ x : World, x = wK1.alloc (.cells #[.int .u64 0, .int .u64 0, .int .u64 0, .int .u64 0] 24) := ⟨_, rfl⟩
            have hSK2 : Below w4.heap.size w4 wK2 := by rw [hwK2]; exact hSK2'
            have b16_2 : Blk wK2 24 N16_2 (fun _ => 0) := by rw [hwK2, hN16_2]; exact Blk.new wK1 24 (fun _ => 0)
            have lN16_2 : w4.heap.size ≤ N16_2 := by rw [hN16_2]; exact (hSK1).size
            have b17_2 : Blk wK2 24 N17_1 (fun _ => 0) := by rw [hwK2]; exact b17_1.alloc _
            have neN17_1_N16_2 : N17_1 ≠ N16_2 := by have := b17_1.lt; omega
            rw [← hwK2, ← hN16_2]
            clear hwK2 hSK2' hN16_2
            refine wpZ_one (i := 6) (by kernel_rfl) rfl (fun K hK => ?_)
            go_simp
            refine (C2.out wK2 (HGa.out.below (hSK2)) (rk.belowAll (hSK2))).mono ?_
            rintro e wK3 ⟨rfl, hbK3⟩
            have hSK3 : Below w4.heap.size w4 wK3 := bStep (hSK2) hbK3
            go_wp2_with fail
            refine hK.out _ _ (fun _ => hSK3) ?_
            clear hK K
            have b17_3 := b17_2.belowAll hbK3
            have b16_3 := b16_2.belowAll hbK3
            refine wpZ_one (i := 7) (by kernel_rfl) rfl (fun K hK => ?_)
            go_simp
            refine (C4.out wK3 (HGa.out.below (hSK3))).mono ?_
            rintro e wK4 ⟨rfl, hbK4⟩
            have hSK4 : Below w4.heap.size w4 wK4 := bStep (hSK3) hbK4
            go_wp2_with fail
            refine hK.out _ _ (fun _ => hSK4) ?_
            clear hK K
            have b17_4 := b17_3.belowAll hbK4
            have b16_4 := b16_3.belowAll hbK4
            refine wpZ_one (i := 14) (by kernel_rfl) rfl (fun K hK => ?_)
            go_simp
            refine (C3.out wK4 (HGa.out.below (hSK4)) (rk.belowAll (hSK4))).mono ?_
            rintro e wK5 ⟨rfl, hbK5⟩
            have hSK5 : Below w4.heap.size w4 wK5 := bStep (hSK4) hbK5
            go_wp2_with fail
            refine hK.out _ _ (fun _ => hSK5) ?_
            clear hK K
            have b17_5 := b17_4.belowAll hbK5
            have b16_5 := b16_4.belowAll hbK5
            refine wpZ_one (i := 15) (by kernel_rfl) rfl (fun K hK => ?_)
            go_simp
            refine (C5.out wK5 (HGa.out.below (hSK5))).mono ?_
            rintro e wK6 ⟨rfl, hbK6⟩
            have hSK6 : Below w4.heap.size w4 wK6 := bStep (hSK5) hbK6
            go_wp2_with fail
            refine hK.out _ _ (fun _ => hSK6) ?_
            clear hK K
            have b17_6 := b17_5.belowAll hbK6
            have b16_6 := b16_5.belowAll hbK6
            refine wpZ_one (i := 18) (by kernel_rfl) rfl (fun K hK => ?_)
            have cS := b16_6.cell; have fS := b16_6.frozen
            go_simp
            refine hK.out _ _ (fun _ => bSet4 (hSK6) lN16_2 _ _ _ _) ?_
            clear hK K cS fS
            obtain ⟨wK7, hwK7⟩ : ∃ x : World, x = ((((wK6.setCell ⟨N16_2, 0, none⟩ (.int .u64 ((limb 0 u1 : Nat) : Int))).setCell ⟨N16_2, 1, none⟩ (.int .u64 ((limb 1 u1 : Nat) : Int))).setCell ⟨N16_2, 2, none⟩ (.int .u64 ((limb 2 u1 : Nat) : Int))).setCell ⟨N16_2, 3, none⟩ (.int .u64 ((limb 3 u1 : Nat) : Int))) := ⟨_, rfl⟩
            have hSK7 : Below w4.heap.size w4 wK7 := by rw [hwK7]; exact bSet4 (hSK6) lN16_2 _ _ _ _
            have b17_7 : Blk wK7 24 N17_1 (fun _ => 0) := by rw [hwK7]; exact b17_6.other4 (by omega) _ _ _ _
            have b16_7 : Blk wK7 24 N16_2 (fun i => limb i u1) := by rw [hwK7]; exact b16_6.set4 (fun i => limb i u1)
            rw [← hwK7]
            clear hwK7
            refine wpZ_one (i := 19) (by kernel_rfl) rfl (fun K hK => ?_)
            have cS := b17_7.cell; have fS := b17_7.frozen
            go_simp
            refine hK.out _ _ (fun _ => bSet4 (hSK7) lN17_1 _ _ _ _) ?_
            clear hK K cS fS
            obtain ⟨wK8, hwK8⟩ : ∃ x : World, x = ((((wK7.setCell ⟨N17_1, 0, none⟩ (.int .u64 ((limb 0 u2 : Nat) : Int))).setCell ⟨N17_1, 1, none⟩ (.int .u64 ((limb 1 u2 : Nat) : Int))).setCell ⟨N17_1, 2, none⟩ (.int .u64 ((limb 2 u2 : Nat) : Int))).setCell ⟨N17_1, 3, none⟩ (.int .u64 ((limb 3 u2 : Nat) : Int))) := ⟨_, rfl⟩
            have hSK8 : Below w4.heap.size w4 wK8 := by rw [hwK8]; exact bSet4 (hSK7) lN17_1 _ _ _ _
            have b17_8 : Blk wK8 24 N17_1 (fun i => limb i u2) := by rw [hwK8]; exact b17_7.set4 (fun i => limb i u2)
            have b16_8 : Blk wK8 24 N16_2 (fun i => limb i u1) := by rw [hwK8]; exact b16_7.other4 (by omega) _ _ _ _
            rw [← hwK8]
            clear hwK8
            refine wpZ_done (by kernel_rfl) ?_ _
            go_wp2_with fail
            go_meet
            exact ⟨_, _, rfl, rfl, hSK8, b16_8, b17_8⟩
      case rest =>
        obtain ⟨N16, N17, rfl, rfl, hbx, b16, b17⟩ := hcut
        have s5 := r5.belowAll hbx; have s6 := r6.belowAll hbx; have sk := rk.belowAll hbx; have bhc := bha.belowAll hbx
        have hbc := bStep hba hbx
        have HGc : Hid (Glob wc) := HG.out.below hbc
        clear hbx r5 r6 rk bha hba b14 HGa C1 C2 C3 C4 C5 HCS
        go_upto_region 8 with fail
        refine wp_region_Z (fun w' => Below wc.heap.size wc w') 13 (by kernel_rfl) ?_
        obtain ⟨wD, hD⟩ : ∃ x : World, x = wc.drew := ⟨_, rfl⟩
        rw [← hD]
        have hp0_0 : Below wc.heap.size wc wD := by rw [hD]; exact (Below.refl _ _).drew
        have hlow0 : Below wc.heap.size wc wD := by rw [hD]; exact (Below.refl _ _).drew
        clear hD
        refine wpZ_take (i := 0) (v := .slice (some ⟨H, 0, none⟩) m m) 53 rfl rfl (by kernel_rfl) (by kernel_rfl) (by kernel_rfl) (Or.inl (by kernel_rfl)) (fun _ _ _ h => h) (Or.inl ⟨by rfl, fun w hSw => by go_simp⟩) hp0_0 ?_
        simp only [Act.put, List.setIfInBounds_toArray]
        dsimp only [List.set_cons_zero, List.set_cons_succ]
        refine wpZ_take (i := 1) (v := .int .i64 (j : Int)) 54 rfl rfl (by kernel_rfl) (by kernel_rfl) (by kernel_rfl) (Or.inl (by kernel_rfl)) (fun _ _ _ h => h) (Or.inl ⟨by rfl, fun w hSw => by go_simp⟩) hp0_0 ?_
        simp only [Act.put, List.setIfInBounds_toArray]
        dsimp only [List.set_cons_zero, List.set_cons_succ]
        refine wpZ_take (i := 2) (v := .pointer (some ⟨N5, 0, none⟩)) 55 rfl rfl (by kernel_rfl) (by kernel_rfl) (by kernel_rfl) (Or.inl (by kernel_rfl)) (fun _ _ _ h => h) (Or.inl ⟨by rfl, fun w hSw => by go_simp⟩) hp0_0 ?_
        simp only [Act.put, List.setIfInBounds_toArray]
        dsimp only [List.set_cons_zero, List.set_cons_succ]
        refine wpZ_take (i := 3) (v := .int .i64 si) 56 rfl rfl (by kernel_rfl) (by kernel_rfl) (by kernel_rfl) (Or.inl (by kernel_rfl)) (fun _ _ _ h => h) (Or.inl ⟨by rfl, fun w hSw => by (have qq := (s5.belowAll hSw).at HAV.out.2.1; clear hSw; go_simp)⟩) hp0_0 ?_
        simp only [Act.put, List.setIfInBounds_toArray]
        dsimp only [List.set_cons_zero, List.set_cons_succ]
        refine wpZ_take (i := 4) (v := .pointer (some ⟨N6, 12, none⟩)) 57 rfl rfl (by kernel_rfl) (by kernel_rfl) (by kernel_rfl) (Or.inl (by kernel_rfl)) (fun _ _ _ h => h) (Or.inl ⟨by rfl, fun w hSw => by go_simp⟩) hp0_0 ?_
        simp only [Act.put, List.setIfInBounds_toArray]
        dsimp only [List.set_cons_zero, List.set_cons_succ]
        refine wpZ_take (i := 5) (v := .agg #[.int .u64 ((limb 0 (us) : Nat) : Int), .int .u64 ((limb 1 (us) : Nat) : Int), .int .u64 ((limb 2 (us) : Nat) : Int), .int .u64 ((limb 3 (us) : Nat) : Int)]) 58 rfl rfl (by kernel_rfl) (by kernel_rfl) (by kernel_rfl) (Or.inl (by kernel_rfl)) (fun _ _ _ h => h) (Or.inl ⟨by rfl, fun w hSw => by (obtain ⟨q0, q1, q2, q3⟩ : w.cell? ⟨N6, 12, none⟩ = _ ∧ w.cell? ⟨N6, 13, none⟩ = _ ∧ w.cell? ⟨N6, 14, none⟩ = _ ∧ w.cell? ⟨N6, 15, none⟩ = _ := (s6.belowAll hSw).el HSV.out.2.2.2.2; clear hSw; go_simp)⟩) hp0_0 ?_
        simp only [Act.put, List.setIfInBounds_toArray]
        dsimp only [List.set_cons_zero, List.set_cons_succ]
        refine wpZ_take (i := 6) (v := .pointer (some ⟨N5, 0, none⟩)) 59 rfl rfl (by kernel_rfl) (by kernel_rfl) (by kernel_rfl) (Or.inl (by kernel_rfl)) (fun _ _ _ h => h) (Or.inl ⟨by rfl, fun w hSw => by go_simp⟩) hp0_0 ?_
        simp only [Act.put, List.setIfInBounds_toArray]
        dsimp only [List.set_cons_zero, List.set_cons_succ]
        refine wpZ_take (i := 7) (v := .int .i64 si) 60 rfl rfl (by kernel_rfl) (by kernel_rfl) (by kernel_rfl) (Or.inl (by kernel_rfl)) (fun _ _ _ h => h) (Or.inl ⟨by rfl, fun w hSw => by (have qq := (s5.belowAll hSw).at HAV.out.2.1; clear hSw; go_simp)⟩) hp0_0 ?_
        simp only [Act.put, List.setIfInBounds_toArray]
        dsimp only [List.set_cons_zero, List.set_cons_succ]
        refine wpZ_take (i := 8) (v := .agg #[.int .u64 ((limb 0 (u1) : Nat) : Int), .int .u64 ((limb 1 (u1) : Nat) : Int), .int .u64 ((limb 2 (u1) : Nat) : Int), .int .u64 ((limb 3 (u1) : Nat) : Int)]) 61 rfl rfl (by kernel_rfl) (by kernel_rfl) (by kernel_rfl) (Or.inl (by kernel_rfl)) (fun _ _ _ h => h) (Or.inl ⟨by rfl, fun w hSw => by (have qq := (b16.belowAll hSw).cell; clear hSw; go_simp)⟩) hp0_0 ?_
        simp only [Act.put, List.setIfInBounds_toArray]
        dsimp only [List.set_cons_zero, List.set_cons_succ]
        refine wpZ_take (i := 9) (v := .agg #[.int .u64 ((limb 0 (u2) : Nat) : Int), .int .u64 ((limb 1 (u2) : Nat) : Int), .int .u64 ((limb 2 (u2) : Nat) : Int), .int .u64 ((limb 3 (u2) : Nat) : Int)]) 62 rfl rfl (by kernel_rfl) (by kernel_rfl) (by kernel_rfl) (Or.inl (by kernel_rfl)) (fun _ _ _ h => h) (Or.inl ⟨by rfl, fun w hSw => by (have qq := (b17.belowAll hSw).cell; clear hSw; go_simp)⟩) hp0_0 ?_
        simp only [Act.put, List.setIfInBounds_toArray]
        dsimp only [List.set_cons_zero, List.set_cons_succ]
        refine wpZ_one (i := 10) (by kernel_rfl) rfl (fun K hK => ?_)
        go_simp
        refine (C6.out wD (HGc.out.below hlow0)).mono ?_
        rintro e wT1 ⟨rfl, hbT1⟩
        have hlowT1 := bStep hlow0 hbT1
        go_wp2_with fail
        refine hK.out _ _ (fun _ => hlowT1) ?_
        clear hK K hbT1
        refine wpZ_one (i := 11) (by kernel_rfl) rfl (fun K hK => ?_)
        go_simp
        refine (C7.out wT1 (HGc.out.below hlowT1)).mono ?_
        rintro e wT2 ⟨rfl, hbT2⟩
        have hlowT2 := bStep hlowT1 hbT2
        go_wp2_with fail
        refine hK.out _ _ (fun _ => hlowT2) ?_
        clear hK K hbT2
        refine wpZ_take (i := 12) (v := .pointer (some ⟨H, j * 4, none⟩)) 65 rfl rfl (by kernel_rfl) (by kernel_rfl) (by kernel_rfl) (Or.inl (by kernel_rfl)) (fun _ _ _ h => h) (Or.inl ⟨by rfl, fun w hSw => by go_simp⟩) hlowT2 ?_
        simp only [Act.put, List.setIfInBounds_toArray]
        dsimp only [List.set_cons_zero, List.set_cons_succ]
        refine wpZ_one (i := 13) (by kernel_rfl) rfl (fun K hK => ?_)
        have bS := bhc.belowAll hlowT2
        have g0 := bS.cell j hlt 0 (by decide); have g1 := bS.cell j hlt 1 (by decide); have g2 := bS.cell j hlt 2 (by decide); have g3 := bS.cell j hlt 3 (by decide)
        rw [Nat.add_zero] at g0
        have fg := bS.frozen
        obtain ⟨wz, hwz, bz, hkz⟩ := bS.put hlt y
        go_simp
        refine hK.out _ _ (fun h => absurd rfl h) ?_
        clear hK K
        refine wpZ_done (by kernel_rfl) ?_ _
        have hbz := bKept (bStep hbc hlowT2) lH hkz
        have z5 := (s5.belowAll hlowT2).kept n5H hkz; have z6 := (s6.belowAll hlowT2).kept n6H hkz
        have zk : CelK wz G n A O D := by
          have h := sk.belowAll hlowT2
          obtain ⟨c, hc, hr⟩ := h
          exact ⟨c, by rw [hkz.block G (Array.getElem?_eq_some_iff.1 hc).1 nGH]; exact hc, hr⟩
        have HBZ : Hid (BlkE wz H m (fun i => if i < j + 1 then st i else 0)) := bz.congr (fun i hi => by
          by_cases h1 : i = j
          · subst h1; rw [if_pos (Nat.lt_succ_self i), if_pos rfl]; exact HY.out.symm
          · by_cases h2 : i < j
            · rw [if_pos (show i < j + 1 by omega), if_neg h1, if_pos h2]
            · rw [if_neg (show ¬ i < j + 1 by omega), if_neg h1, if_neg h2])
        clear bS g0 g1 g2 g3 fg bz hkz hbc s5 s6 sk bhc b16 b17 hlowT2 HY
        go_wp2
        go_roundw
        case measure => simp [intOf]; omega
        case rel => exact ⟨j + 1, by have := HM9.out; go_num, by omega, HBZ.out, hbz, z5, z6, zk⟩
    · have hji : ¬ (j : Int) < (m : Int) := by omega
      obtain rfl : m = j := by omega
      have HBZ : Hid (BlkE wr H m st) := bh.congr (fun i hi => by rw [if_pos hi])
      clear bh p5 p6 pk
      go_wp2
      refine bodyPost_ret (v := .slice (some ⟨H, 0, none⟩) m m) (by simp [results, Tryd.results29, go_sem]) rfl ⟨⟨H, rfl, lH, HBZ.out⟩, hbr⟩
end Go.Proofs.YtoipnjfajandmaaDoor
