/- poly: without. -/
import Derived.Test.YtfahhohhpjlhnaaDoorPZ1
namespace Go.Proofs.YtfahhohhpjlhnaaDoor
open Go.RowKit
attribute [local go_sem] semAt_rd

set_option maxHeartbeats 8000000 in
set_option maxRecDepth 100000 in
/-- poly.without: the quotient by X - x. -/
theorem wout_any {si : Int} {el : Nat → Nat} {ad mu : Nat → Nat → Nat} (hF : Fld si el ad mu) (b L N cn c : Nat) (f : Nat → Nat) (hL : L = N + 1) (hN1 : 1 ≤ N) (hN : N ≤ 100000) (hc : c < 115792089237316195423570985008687907853269984665640564039457584007913129639936) (hf : ∀ i, i < L → f i < 115792089237316195423570985008687907853269984665640564039457584007913129639936) (w : World) (hg : Glob w) (hv : Es w (.slice (some ⟨b, 0, none⟩) L cn) L f) :
    Calls Tryd.prog 20 #[.int .i64 si, .slice (some ⟨b, 0, none⟩) L cn, .agg #[.int .u64 ((limb 0 (c) : Nat) : Int), .int .u64 ((limb 1 (c) : Nat) : Int), .int .u64 ((limb 2 (c) : Nat) : Int), .int .u64 ((limb 3 (c) : Nat) : Int)]] w fun e w' => (∃ G, e = .returned (.slice (some ⟨G, 0, none⟩) N N) ∧ w.heap.size ≤ G ∧ BlkE w' G N (fun i => hor ad mu (el c) (fun j => f (j + 1)) N (N - i))) ∧ Below w.heap.size w w' := by
  obtain ⟨i0, hi, hz0, hz1, hz2⟩ := elemInfo
  have HI := (show Hid _ from hi); have HZ := (show Hid _ from And.intro hz0 (And.intro hz1 hz2)); clear hi hz0 hz1 hz2
  have HE := pElem_any hF c hc
  have HADD : Hid (∀ a b, a < 115792089237316195423570985008687907853269984665640564039457584007913129639936 → b < 115792089237316195423570985008687907853269984665640564039457584007913129639936 → ∀ w, Glob w → Calls Tryd.prog 32 #[.int .i64 si, .agg #[.int .u64 ((limb 0 (a) : Nat) : Int), .int .u64 ((limb 1 (a) : Nat) : Int), .int .u64 ((limb 2 (a) : Nat) : Int), .int .u64 ((limb 3 (a) : Nat) : Int)], .agg #[.int .u64 ((limb 0 (b) : Nat) : Int), .int .u64 ((limb 1 (b) : Nat) : Int), .int .u64 ((limb 2 (b) : Nat) : Int), .int .u64 ((limb 3 (b) : Nat) : Int)]] w fun e w' => e = .returned (.agg #[.int .u64 ((limb 0 (ad a b) : Nat) : Int), .int .u64 ((limb 1 (ad a b) : Nat) : Int), .int .u64 ((limb 2 (ad a b) : Nat) : Int), .int .u64 ((limb 3 (ad a b) : Nat) : Int)]) ∧ Below w.heap.size w w') := hF.2.2.2.2.1
  have HMUL : Hid (∀ a b, a < 115792089237316195423570985008687907853269984665640564039457584007913129639936 → b < 115792089237316195423570985008687907853269984665640564039457584007913129639936 → ∀ w, Glob w → Calls Tryd.prog 23 #[.int .i64 si, .agg #[.int .u64 ((limb 0 (a) : Nat) : Int), .int .u64 ((limb 1 (a) : Nat) : Int), .int .u64 ((limb 2 (a) : Nat) : Int), .int .u64 ((limb 3 (a) : Nat) : Int)], .agg #[.int .u64 ((limb 0 (b) : Nat) : Int), .int .u64 ((limb 1 (b) : Nat) : Int), .int .u64 ((limb 2 (b) : Nat) : Int), .int .u64 ((limb 3 (b) : Nat) : Int)]] w fun e w' => e = .returned (.agg #[.int .u64 ((limb 0 (mu a b) : Nat) : Int), .int .u64 ((limb 1 (mu a b) : Nat) : Int), .int .u64 ((limb 2 (mu a b) : Nat) : Int), .int .u64 ((limb 3 (mu a b) : Nat) : Int)]) ∧ Below w.heap.size w w') := hF.2.2.2.2.2
  have HMM : Hid (∀ a b, mu a b < 115792089237316195423570985008687907853269984665640564039457584007913129639936) := hF.2.2.1
  have HHM : Hid (∀ i, hor ad mu (el c) (fun j => f (j + 1)) N i < 115792089237316195423570985008687907853269984665640564039457584007913129639936) := fun i => by
    cases i with
    | zero => exact M_pos
    | succ i => exact hF.2.1 _ _
  have HKM : Hid (el c < 115792089237316195423570985008687907853269984665640564039457584007913129639936) := hF.1 c hc
  obtain ⟨d, ed⟩ : ∃ d, d = el c := ⟨_, rfl⟩
  rw [← ed] at HE HKM HHM ⊢
  have HEC : Hid (∀ w, Glob w → _) := HE
  have HG : Hid (Glob w) := hg
  have HV : Hid (Es w (.slice (some ⟨b, 0, none⟩) L cn) L f) := hv
  have HFM : Hid (∀ i, i < L → f i < 115792089237316195423570985008687907853269984665640564039457584007913129639936) := hf
  clear hF hg hv hf HE ed hc
  have HFS : Hid (∀ i, i < N → f (i + 1) < 115792089237316195423570985008687907853269984665640564039457584007913129639936) := fun i hi => HFM.out (i + 1) (by omega)
  have HLN : Hid (L = N + 1) := hL
  have hLs : (L : Int) - 1 = (N : Int) := by omega
  have hL1 : (1 : Int) ≤ (L : Int) := by omega
  have hNn : (0 : Int) ≤ (N : Int) := by omega
  have hwr : IntKind.i64.wrap (N : Int) = (N : Int) := wrap_i64_nat N (by omega)
  have HCN : Hid (L ≤ cn ∧ b < w.heap.size ∧ ∀ i, i < N → ∀ j, j < 4 → w.cell? ⟨b, 4 + i * 4 + j, none⟩ = some (.int .u64 ((limb j (f (i + 1)) : Nat) : Int))) := by
    rcases HV.out with ⟨h, _⟩ | ⟨ab, ao, c', hv, hnc, _, lab, hcell⟩
    · cases h
    · cases hv
      refine ⟨hnc, lab, fun i hi j hj => ?_⟩
      have := hcell (i + 1) (by omega) j hj
      rwa [show 0 + (i + 1) * 4 + j = 4 + i * 4 + j from by omega] at this
  have hLn : L - 1 = N := by omega
  have hc1 : ¬ cn = 1 := by have := HCN.out.1; omega
  have hLc : (L : Int) ≤ (cn : Int) := by have := HCN.out.1; omega
  obtain ⟨f', ef'⟩ : ∃ g : Nat → Nat, g = fun i => f (i + 1) := ⟨_, rfl⟩
  have HEF : Hid (∀ i, f (i + 1) = f' i) := fun i => by rw [ef']
  have HFS' : Hid (∀ i, i < N → f' i < 115792089237316195423570985008687907853269984665640564039457584007913129639936) := fun i hi => by rw [← HEF.out]; exact HFS.out i hi
  have HCN' : Hid (b < w.heap.size ∧ ∀ i, i < N → ∀ j, j < 4 → w.cell? ⟨b, 4 + i * 4 + j, none⟩ = some (.int .u64 ((limb j (f' i) : Nat) : Int))) := ⟨HCN.out.2.1, fun i hi j hj => by rw [← HEF.out]; exact HCN.out.2.2 i hi j hj⟩
  rw [← ef'] at HHM ⊢
  clear ef' HEF HFS HFM HV hL
  refine (callsIn_wide (n := 4)).1 (callsIn_of_wp_marks Tryd.func20 rfl trivial (wpIn_wide.2 ?_) rfl)
  simp only [Tryd.ntmps20, List.size_toArray, List.length_cons, List.length_nil, Nat.reduceAdd, Nat.reduceSub, Array.replicate_succ, Array.replicate_zero, List.push_toArray, List.append_toArray, List.nil_append, List.cons_append]
  go_upto_region 1 with fail
  have hs1 : (w.alloc (.cells #[.int .i64 si] 3)).heap.size = w.heap.size + 1 := Array.size_push ..
  obtain ⟨u0, hu0⟩ : ∃ z : World, z = (w.alloc (.cells #[.int .i64 si] 3)).alloc (.cells #[.int .u64 ((limb 0 (c) : Nat) : Int), .int .u64 ((limb 1 (c) : Nat) : Int), .int .u64 ((limb 2 (c) : Nat) : Int), .int .u64 ((limb 3 (c) : Nat) : Int)] 33) := ⟨_, rfl⟩
  have o3 : One1 u0 3 w.heap.size (.int .i64 si) := by rw [hu0]; exact (One1.new _ _ _).alloc _
  have o5 : Blk u0 33 (w.heap.size + 1) (fun i => limb i c) := by rw [hu0]; exact Blk.newAt _ _ _ (fun i => limb i c) hs1.symm
  have hb0 : Below w.heap.size w u0 := by rw [hu0]; exact bAlloc (bAlloc (Below.refl _ _) _) _
  obtain ⟨N3, e3⟩ : ∃ z, z = w.heap.size := ⟨_, rfl⟩
  obtain ⟨N5, e5⟩ : ∃ z, z = N3 + 1 := ⟨_, rfl⟩
  rw [← e3] at o3
  rw [← e3, ← e5] at o5
  rw [← hu0, ← e3, ← e5]
  have n35 : N3 ≠ N5 := by omega
  have l3 : w.heap.size ≤ N3 := by omega
  have l5 : w.heap.size ≤ N5 := by omega
  clear hu0 hs1 e3 e5
  go_wp2_with (first
    | (at_make; refine wpList_make_full _ rfl _ _ 22 rfl u0.heap.size 33 i0 (.agg #[.int .u64 0, .int .u64 0, .int .u64 0, .int .u64 0]) 4 Tryd.underlying22 HI.out HZ.out.1 HZ.out.2.1 .i64 .i64 N N N rfl rfl rfl rfl ?c1 ?c2 (Nat.le_refl _) ?_)
    | go_in)
  case c1 => rw [HZ.out.2.2]; omega
  case c2 => unfold maxLen; omega
  intro u1 hown hgrow
  obtain ⟨G, eG⟩ : ∃ G, G = u0.heap.size := ⟨_, rfl⟩
  rw [← eG] at hown ⊢
  have bo1 : BlkE u1 G N (fun _ => 0) := (own_blkE (f := fun _ => 0) hown (fun i hi j hj => by rw [made_zero N (i * 4 + j) (by omega), limb_zero]; rfl)).1
  have hbe : Below u0.heap.size u0 u1 := (Below.refl _ u0).grown hgrow (Nat.le_refl _) (fun j hj => by cases hj)
  have hbw1 := bStep hb0 hbe
  have lu0 := hb0.size
  have o31 := o3.belowAll hbe; have o51 := o5.belowAll hbe
  have k3 := o3.lt; have k5 := o5.lt
  have lG : w.heap.size ≤ G := by omega
  have n3G : N3 ≠ G := by omega
  have n5G : N5 ≠ G := by omega
  clear hown hgrow hbe o3 o5 hb0 lu0 eG
  go_upto_region 2 with fail
  obtain ⟨N7, e7⟩ : ∃ z, z = u1.heap.size := ⟨_, rfl⟩
  obtain ⟨u2, hu2⟩ : ∃ z : World, z = u1.alloc (.cells #[.slice (some ⟨G, 0, none⟩) N N] 22) := ⟨_, rfl⟩
  have o72 : One1 u2 22 N7 (.slice (some ⟨G, 0, none⟩) N N) := by rw [hu2, e7]; exact One1.new _ _ _
  have hb2 : Below u1.heap.size u1 u2 := by rw [hu2]; exact bAlloc (Below.refl _ _) _
  have bo2 := bo1.belowAll hb2; have o32 := o31.belowAll hb2; have o52 := o51.belowAll hb2; have hbw2 := bStep hbw1 hb2
  have kG := bo1.lt; have k31 := o31.lt; have k51 := o51.lt
  have l7 : w.heap.size ≤ N7 := by have := hbw1.size; omega
  have n7G : N7 ≠ G := by omega
  have n37 : N3 ≠ N7 := by omega
  have n57 : N5 ≠ N7 := by omega
  rw [← hu2, ← e7]
  clear hu2 e7 bo1 o31 o51 hbw1 hb2 k3 k5 kG k31 k51
  have c3 := o32.cell; have c5 := o52.cell
  go_wp2_with fail
  refine (HEC.out u2 (HG.out.below hbw2)).mono ?_
  rintro e u3 ⟨rfl, hb3⟩
  clear c3 c5
  have bo3 := bo2.belowAll hb3; have o33 := o32.belowAll hb3; have o53 := o52.belowAll hb3; have o73 := o72.belowAll hb3; have hbw3 := bStep hbw2 hb3
  clear bo2 o32 o52 o72 hbw2 hb3 HEC
  have c5 := o53.cell; have f5 := o53.frozen
  obtain ⟨u4, hu4, s5, hk4⟩ := o53.put4 d
  have hbw4 := bKept hbw3 l5 hk4
  have s3 := o33.kept n35 hk4; have s7 := o73.kept n57.symm hk4; have sG := bo3.kept n5G.symm hk4
  clear o33 o73 bo3 o53 hbw3 hk4
  go_upto_region 4 with fail
  obtain ⟨N8, e8⟩ : ∃ z, z = u4.heap.size := ⟨_, rfl⟩
  clear hu4 c5 f5
  obtain ⟨u5, hu5⟩ : ∃ z : World, z = u4.alloc (.cells #[.int .u64 0, .int .u64 0, .int .u64 0, .int .u64 0] 33) := ⟨_, rfl⟩
  have o85 : Blk u5 33 N8 (fun _ => 0) := by rw [hu5, e8]; exact Blk.newAt _ _ _ (fun _ => 0) rfl
  have hb5 : Below u4.heap.size u4 u5 := by rw [hu5]; exact bAlloc (Below.refl _ _) _
  have t3 := s3.belowAll hb5; have t5 := s5.belowAll hb5; have t7 := s7.belowAll hb5; have tG := sG.belowAll hb5
  have k3 := s3.lt; have k5 := s5.lt; have k7 := s7.lt; have kG := sG.lt
  have hbw5 := bStep hbw4 hb5
  have n38 : N3 ≠ N8 := by omega
  have n58 : N5 ≠ N8 := by omega
  have n78 : N7 ≠ N8 := by omega
  have nG8 : G ≠ N8 := by omega
  have l8 : w.heap.size ≤ N8 := by have := hbw4.size; omega
  rw [← hu5, ← e8]
  clear hu5 e8 s3 s5 s7 sG hbw4 hb5
  go_wp2_with fail
  refine (bwd_any (some ⟨b, 4, none⟩) N (cn - 1) _).mono ?_
  rintro e w' ⟨rfl, rfl⟩
  have ks5 := hbw5.size
  obtain ⟨NB, eB⟩ : ∃ z, z = u5.heap.size := ⟨_, rfl⟩
  obtain ⟨w0, hw0⟩ : ∃ z : World, z = u5.alloc (.cells #[.slice (some ⟨b, 4, none⟩) N (cn - 1)] 22) := ⟨_, rfl⟩
  have hs3 : w0.heap.size = u5.heap.size + 1 := by rw [hw0]; exact Array.size_push ..
  have oB : One1 w0 22 NB (.slice (some ⟨b, 4, none⟩) N (cn - 1)) := by rw [hw0]; exact One1.newAt _ _ _ eB
  have hb2 : Below u5.heap.size u5 w0 := by rw [hw0]; exact bAlloc (Below.refl _ _) _
  have o3 := t3.belowAll hb2; have o5 := t5.belowAll hb2; have o7 := t7.belowAll hb2; have oG := tG.belowAll hb2
  have o8 : Blk w0 33 N8 (fun i => limb i (hor ad mu d f' N (N - N))) := (o85.belowAll hb2).congr (fun i _ => by rw [Nat.sub_self]; exact limb_zero i)
  have oGc : BlkE w0 G N (fun t => if N ≤ t then hor ad mu d f' N (N - t) else 0) := oG.congr (fun t ht => if_neg (by omega))
  have hbw0 := bStep hbw5 hb2
  have k8 := o85.lt
  go_wp2_with fail
  rw [← hw0, ← eB]
  have nB3 : N3 ≠ NB := by have := t3.lt; omega
  have nBG : NB ≠ G := by have := tG.lt; omega
  have nB8 : NB ≠ N8 := by omega
  have lh3 : N3 < w0.heap.size := o3.lt
  have lh5 : N5 < w0.heap.size := o5.lt
  have lh7 : N7 < w0.heap.size := o7.lt
  have lh8 : N8 < w0.heap.size := o8.lt
  have lhG : G < w0.heap.size := oG.lt
  have lhB : NB < w0.heap.size := oB.lt
  have lhw : w.heap.size ≤ w0.heap.size := hbw0.size
  clear hw0 hs3 eB k3 k5 k7 kG k8 t3 t5 t7 tG o85 oG hbw5 hb2 ks5
  refine wp_backward NB N (cn - 1) (some ⟨b, 4, none⟩) f' (by omega) rfl rfl
    (fun i W => (Below w.heap.size w W ∧ One1 W 3 N3 (.int .i64 si) ∧ Blk W 33 N5 (fun i => limb i d) ∧ One1 W 22 N7 (.slice (some ⟨G, 0, none⟩) N N) ∧ Blk W 33 N8 (fun j => limb j (hor ad mu d f' N (N - i))) ∧ BlkE W G N (fun t => if i ≤ t then hor ad mu d f' N (N - t) else 0) ∧ One1 W 22 NB (.slice (some ⟨b, 4, none⟩) N (cn - 1))) ∧ Hid (i ≤ N))
    (fun _ _ _ => False)
    (fun i W W' hb h => ⟨⟨h.1.1.trans (hb.mono lhw), h.1.2.1.below hb lh3, h.1.2.2.1.below hb lh5, h.1.2.2.2.1.below hb lh7, h.1.2.2.2.2.1.below hb lh8, h.1.2.2.2.2.2.1.below hb lhG, h.1.2.2.2.2.2.2.below hb lhB⟩, h.2⟩)
    (fun c i W W' hb h => h.elim)
    (fun i W h => h.1.2.2.2.2.2.2.cell)
    (fun i W hi h => ?cells) ⟨⟨hbw0, o3, o5, o7, o8, oGc, oB⟩, Nat.le_refl _⟩ ?round ?done ?stop
  case cells =>
    exact ⟨b, 4, rfl, fun j hj => (h.1.1.cell (p := ⟨b, 4 + i * 4 + j, none⟩) HCN'.out.1).trans (HCN'.out.2 i hi j hj)⟩
  case round =>
    rintro l i W hl hlW hi ⟨⟨hbW, p3, p5, p7, p8, pG, pB⟩, HI2⟩
    have HXM : Hid (f' i < 115792089237316195423570985008687907853269984665640564039457584007913129639936) := HFS'.out i hi
    have HVM : Hid (hor ad mu d f' N (N - (i + 1)) < 115792089237316195423570985008687907853269984665640564039457584007913129639936) := HHM.out _
    have HRC : Hid (hor ad mu d f' N (N - i) = ad (mu (hor ad mu d f' N (N - (i + 1))) d) (f' i)) := by
      show hor ad mu d f' N (N - i) = _
      rw [show N - i = (N - (i + 1)) + 1 by omega]
      show ad _ (f' (N - (N - (i + 1) + 1))) = _
      rw [show N - (N - (i + 1) + 1) = i by omega]
    obtain ⟨v, ev⟩ : ∃ v, v = hor ad mu d f' N (N - (i + 1)) := ⟨_, rfl⟩
    obtain ⟨x, ex⟩ : ∃ x, x = f' i := ⟨_, rfl⟩
    rw [← ex] at HXM HRC ⊢
    rw [← ev] at HVM HRC p8
    have HEV : Hid (v = hor ad mu d f' N (N - (i + 1))) := ev
    clear ex ev
    have hM := HMUL.out v d HVM.out HKM.out
    have hmm := HMM.out v d
    obtain ⟨m, em⟩ : ∃ m, m = mu v d := ⟨_, rfl⟩
    rw [← em] at hM hmm HRC
    have hA := HADD.out m x hmm HXM.out
    obtain ⟨y, ey⟩ : ∃ y, y = ad m x := ⟨_, rfl⟩
    rw [← ey] at hA HRC
    have HMU : Hid (∀ w, Glob w → Calls Tryd.prog 23 #[.int .i64 si, .agg #[.int .u64 ((limb 0 (v) : Nat) : Int), .int .u64 ((limb 1 (v) : Nat) : Int), .int .u64 ((limb 2 (v) : Nat) : Int), .int .u64 ((limb 3 (v) : Nat) : Int)], .agg #[.int .u64 ((limb 0 (d) : Nat) : Int), .int .u64 ((limb 1 (d) : Nat) : Int), .int .u64 ((limb 2 (d) : Nat) : Int), .int .u64 ((limb 3 (d) : Nat) : Int)]] w fun e w' => e = .returned (.agg #[.int .u64 ((limb 0 (m) : Nat) : Int), .int .u64 ((limb 1 (m) : Nat) : Int), .int .u64 ((limb 2 (m) : Nat) : Int), .int .u64 ((limb 3 (m) : Nat) : Int)]) ∧ Below w.heap.size w w') := hM
    have HAD : Hid (∀ w, Glob w → Calls Tryd.prog 32 #[.int .i64 si, .agg #[.int .u64 ((limb 0 (m) : Nat) : Int), .int .u64 ((limb 1 (m) : Nat) : Int), .int .u64 ((limb 2 (m) : Nat) : Int), .int .u64 ((limb 3 (m) : Nat) : Int)], .agg #[.int .u64 ((limb 0 (x) : Nat) : Int), .int .u64 ((limb 1 (x) : Nat) : Int), .int .u64 ((limb 2 (x) : Nat) : Int), .int .u64 ((limb 3 (x) : Nat) : Int)]] w fun e w' => e = .returned (.agg #[.int .u64 ((limb 0 (y) : Nat) : Int), .int .u64 ((limb 1 (y) : Nat) : Int), .int .u64 ((limb 2 (y) : Nat) : Int), .int .u64 ((limb 3 (y) : Nat) : Int)]) ∧ Below w.heap.size w w') := hA
    have HY : Hid (y = hor ad mu d f' N (N - i)) := HRC.out.symm
    clear ey em hM hA hmm HRC
    gi_wp2
    obtain ⟨W1, hW1⟩ : ∃ z : World, z = W.alloc (.cells #[.int .u64 ((limb 0 (x) : Nat) : Int), .int .u64 ((limb 1 (x) : Nat) : Int), .int .u64 ((limb 2 (x) : Nat) : Int), .int .u64 ((limb 3 (x) : Nat) : Int)] 33) := ⟨_, rfl⟩
    obtain ⟨N9, e9⟩ : ∃ z, z = W.heap.size := ⟨_, rfl⟩
    rw [← hW1, ← e9]
    have hb1 : Below W.heap.size W W1 := by rw [hW1]; exact bAlloc (Below.refl _ _) _
    have b91 : Blk W1 33 N9 (fun i => limb i x) := by rw [hW1]; exact Blk.newAt _ _ _ (fun i => limb i x) e9
    have n9l : N9 ≠ l := by omega
    rw [HEV.out] at p8
    refine ⟨⟨Kr.of_below hb1, ⟨bStep hbW hb1, p3.belowAll hb1, p5.belowAll hb1, p7.belowAll hb1, p8.belowAll hb1, pG.belowAll hb1, pB.belowAll hb1⟩, HI2⟩, ?_⟩
    rintro W2 hk2 hs2 ⟨⟨hbW2, q3, q5, q7, q8, qG, qB⟩, _⟩
    have b9 := same_Blk b91 hk2 n9l
    rw [← HEV.out] at q8
    clear hk2 hs2 b91 hb1 hW1 e9 p3 p5 p7 p8 pG pB hbW
    have HG2 : Hid (Glob W2) := HG.out.below hbW2
    gi_wp2_with fail
    refine wpIn_region_Z (fun w' => Below W2.heap.size W2 w') 7 (by kernel_rfl) (by kernel_rfl) (by rintro ⟨_, _, h⟩; exact h) ?_
    obtain ⟨wD, hD⟩ : ∃ x : World, x = W2.drew := ⟨_, rfl⟩
    rw [← hD]
    have hp0_0 : Below W2.heap.size W2 wD := by rw [hD]; exact (Below.refl _ _).drew
    have hlow0 : Below W2.heap.size W2 wD := by rw [hD]; exact (Below.refl _ _).drew
    clear hD
    refine wpZ_take (i := 0) (v := .int .i64 si) 23 rfl rfl (by kernel_rfl) (by kernel_rfl) (by kernel_rfl) (Or.inl (by kernel_rfl)) (fun _ _ _ h => h) (Or.inl ⟨by rfl, fun w hSw => by (have qq := (q3.belowAll hSw).cell; clear hSw; go_simp)⟩) hp0_0 ?_
    simp only [Act.put, List.setIfInBounds_toArray]
    dsimp only [List.set_cons_zero, List.set_cons_succ]
    refine wpZ_take (i := 1) (v := .int .i64 si) 24 rfl rfl (by kernel_rfl) (by kernel_rfl) (by kernel_rfl) (Or.inl (by kernel_rfl)) (fun _ _ _ h => h) (Or.inl ⟨by rfl, fun w hSw => by (have qq := (q3.belowAll hSw).cell; clear hSw; go_simp)⟩) hp0_0 ?_
    simp only [Act.put, List.setIfInBounds_toArray]
    dsimp only [List.set_cons_zero, List.set_cons_succ]
    refine wpZ_take (i := 2) (v := .agg #[.int .u64 ((limb 0 (v) : Nat) : Int), .int .u64 ((limb 1 (v) : Nat) : Int), .int .u64 ((limb 2 (v) : Nat) : Int), .int .u64 ((limb 3 (v) : Nat) : Int)]) 25 rfl rfl (by kernel_rfl) (by kernel_rfl) (by kernel_rfl) (Or.inl (by kernel_rfl)) (fun _ _ _ h => h) (Or.inl ⟨by rfl, fun w hSw => by (have qq := (q8.belowAll hSw).cell; clear hSw; go_simp)⟩) hp0_0 ?_
    simp only [Act.put, List.setIfInBounds_toArray]
    dsimp only [List.set_cons_zero, List.set_cons_succ]
    refine wpZ_take (i := 3) (v := .agg #[.int .u64 ((limb 0 (d) : Nat) : Int), .int .u64 ((limb 1 (d) : Nat) : Int), .int .u64 ((limb 2 (d) : Nat) : Int), .int .u64 ((limb 3 (d) : Nat) : Int)]) 26 rfl rfl (by kernel_rfl) (by kernel_rfl) (by kernel_rfl) (Or.inl (by kernel_rfl)) (fun _ _ _ h => h) (Or.inl ⟨by rfl, fun w hSw => by (have qq := (q5.belowAll hSw).cell; clear hSw; go_simp)⟩) hp0_0 ?_
    simp only [Act.put, List.setIfInBounds_toArray]
    dsimp only [List.set_cons_zero, List.set_cons_succ]
    refine wpZ_take (i := 5) (v := .agg #[.int .u64 ((limb 0 (x) : Nat) : Int), .int .u64 ((limb 1 (x) : Nat) : Int), .int .u64 ((limb 2 (x) : Nat) : Int), .int .u64 ((limb 3 (x) : Nat) : Int)]) 28 rfl rfl (by kernel_rfl) (by kernel_rfl) (by kernel_rfl) (Or.inl (by kernel_rfl)) (fun _ _ _ h => h) (Or.inl ⟨by rfl, fun w hSw => by (have qq := (b9.belowAll hSw).cell; clear hSw; go_simp)⟩) hp0_0 ?_
    simp only [Act.put, List.setIfInBounds_toArray]
    dsimp only [List.set_cons_zero, List.set_cons_succ]
    refine wpZ_one (i := 4) (by kernel_rfl) rfl (fun K hK => ?_)
    go_simp
    refine (HMU.out wD (HG2.out.below hlow0)).mono ?_
    rintro e wT1 ⟨rfl, hbT1⟩
    have hlowT1 := bStep hlow0 hbT1
    go_wp2_with fail
    refine hK.out _ _ (fun _ => hlowT1) ?_
    clear hK K hbT1
    refine wpZ_one (i := 6) (by kernel_rfl) rfl (fun K hK => ?_)
    go_simp
    refine (HAD.out wT1 (HG2.out.below hlowT1)).mono ?_
    rintro e wT2 ⟨rfl, hbT2⟩
    have hlowT2 := bStep hlowT1 hbT2
    go_wp2_with fail
    refine hK.out _ _ (fun _ => hlowT2) ?_
    clear hK K hbT2
    refine wpZ_one (i := 7) (by kernel_rfl) rfl (fun K hK => ?_)
    have bS := q8.belowAll hlowT2
    have cS := bS.cell; have fS := bS.frozen
    obtain ⟨W5, hW5, s8, hk5⟩ := bS.put4 y
    go_simp
    refine hK.out _ _ (fun h => absurd rfl h) ?_
    clear hK K
    refine wpZ_done (by kernel_rfl) ?_ _
    have hbW5 := bKept (bStep hbW2 hlowT2) l8 hk5
    have t3 := (q3.belowAll hlowT2).kept n38 hk5; have t5 := (q5.belowAll hlowT2).kept n58 hk5; have t7 := (q7.belowAll hlowT2).kept n78 hk5; have tG := (qG.belowAll hlowT2).kept nG8 hk5; have tB := (qB.belowAll hlowT2).kept nB8 hk5
    have kr5 : Kr w0.heap.size W2 W5 := (Kr.of_below hlowT2).trans (Kr.of_kept hk5 lh8)
    clear bS cS fS hk5 hW5 q3 q5 q7 q8 qG qB hlowT2 hlowT1
    have hiI : (i : Int) < (N : Int) := by omega
    have cG0 := tG.frozen
    have cGi := tG.cell i hi
    have g0 := cGi 0 (by decide); have g1 := cGi 1 (by decide); have g2 := cGi 2 (by decide); have g3 := cGi 3 (by decide)
    rw [Nat.add_zero] at g0
    clear cGi
    obtain ⟨W6, hW6, s6, hk6⟩ := tG.put hi y
    have c7 := t7.cell; have c8 := s8.cell
    gi_wp2
    have hbW6 := bKept hbW5 lG hk6
    have kr6 : Kr w0.heap.size W2 W6 := kr5.trans (Kr.of_kept hk6 lhG)
    have s8' := s8.kept nG8.symm hk6
    rw [HY.out] at s8'
    refine ⟨kr6, ⟨hbW6, t3.kept n3G hk6, t5.kept n5G hk6, t7.kept n7G hk6, s8', s6.congr (fun t ht => ?_), tB.kept nBG hk6⟩, (by show i ≤ N; omega)⟩
    by_cases c1 : t = i
    · rw [if_pos c1, if_pos (by omega), c1, ← HY.out]
    · rw [if_neg c1]
      by_cases c2 : i + 1 ≤ t
      · rw [if_pos c2, if_pos (by omega)]
      · rw [if_neg c2, if_neg (by omega)]
  case done =>
    rintro D W hD ⟨⟨hbW, p3, p5, p7, p8, pG, pB⟩, _⟩ hK
    have c7 := p7.cell
    have hKl := (Array.getElem?_eq_some_iff.1 hK).1
    go_wp2
    refine ⟨by simp, .inl ⟨_, _, rfl, run_takeDeferred hK, ?_⟩⟩
    have hbD := put_below (H := w0.heap.size) (w := W) hD (.deferred none)
    refine ⟨.slice (some ⟨G, 0, none⟩) N N, by simp [results, Tryd.results20, go_sem], ?_⟩
    exact ⟨⟨G, rfl, lG, (pG.below hbD lhG).congr (fun t ht => (if_pos (Nat.zero_le _)).symm)⟩, hbW.trans (hbD.mono lhw)⟩
  case stop =>
    rintro D c i W _ _ h _
    exact h.elim
end Go.Proofs.YtfahhohhpjlhnaaDoor
