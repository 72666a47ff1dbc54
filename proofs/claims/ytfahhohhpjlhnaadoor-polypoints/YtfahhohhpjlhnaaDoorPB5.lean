/- poly: Eval. -/
import Derived.Test.YtfahhohhpjlhnaaDoorPB4
namespace Go.Proofs.YtfahhohhpjlhnaaDoor
open Go.RowKit
attribute [local go_sem] semAt_rd

/-- The value at x, d of the n coefficients taken, from the last one on. -/
def hor (ad mu : Nat → Nat → Nat) (x : Nat) (f : Nat → Nat) (n : Nat) : Nat → Nat
  | 0 => 0
  | d + 1 => ad (mu (hor ad mu x f n d) x) (f (n - (d + 1)))
set_option maxHeartbeats 8000000 in
set_option maxRecDepth 100000 in
/-- poly.Eval. -/
theorem pEval_any {si : Int} {el : Nat → Nat} {ad mu : Nat → Nat → Nat} (hF : Fld si el ad mu) (oa : Option Addr) (n cn c : Nat) (f : Nat → Nat) (hn : n ≤ 1000000) (hc : c < 115792089237316195423570985008687907853269984665640564039457584007913129639936) (hf : ∀ i, i < n → f i < 115792089237316195423570985008687907853269984665640564039457584007913129639936) (w : World) (hg : Glob w) (hv : Es w (.slice oa n cn) n f) :
    Calls Tryd.prog 12 #[.int .i64 si, .slice oa n cn, .agg #[.int .u64 ((limb 0 (c) : Nat) : Int), .int .u64 ((limb 1 (c) : Nat) : Int), .int .u64 ((limb 2 (c) : Nat) : Int), .int .u64 ((limb 3 (c) : Nat) : Int)]] w fun e w' => e = .returned (.agg #[.int .u64 ((limb 0 (hor ad mu (el c) f n n) : Nat) : Int), .int .u64 ((limb 1 (hor ad mu (el c) f n n) : Nat) : Int), .int .u64 ((limb 2 (hor ad mu (el c) f n n) : Nat) : Int), .int .u64 ((limb 3 (hor ad mu (el c) f n n) : Nat) : Int)]) ∧ Below w.heap.size w w' := by
  have HE := pElem_any hF c hc
  have HADD : Hid (∀ a b, a < 115792089237316195423570985008687907853269984665640564039457584007913129639936 → b < 115792089237316195423570985008687907853269984665640564039457584007913129639936 → ∀ w, Glob w → Calls Tryd.prog 32 #[.int .i64 si, .agg #[.int .u64 ((limb 0 (a) : Nat) : Int), .int .u64 ((limb 1 (a) : Nat) : Int), .int .u64 ((limb 2 (a) : Nat) : Int), .int .u64 ((limb 3 (a) : Nat) : Int)], .agg #[.int .u64 ((limb 0 (b) : Nat) : Int), .int .u64 ((limb 1 (b) : Nat) : Int), .int .u64 ((limb 2 (b) : Nat) : Int), .int .u64 ((limb 3 (b) : Nat) : Int)]] w fun e w' => e = .returned (.agg #[.int .u64 ((limb 0 (ad a b) : Nat) : Int), .int .u64 ((limb 1 (ad a b) : Nat) : Int), .int .u64 ((limb 2 (ad a b) : Nat) : Int), .int .u64 ((limb 3 (ad a b) : Nat) : Int)]) ∧ Below w.heap.size w w') := hF.2.2.2.2.1
  have HMUL : Hid (∀ a b, a < 115792089237316195423570985008687907853269984665640564039457584007913129639936 → b < 115792089237316195423570985008687907853269984665640564039457584007913129639936 → ∀ w, Glob w → Calls Tryd.prog 23 #[.int .i64 si, .agg #[.int .u64 ((limb 0 (a) : Nat) : Int), .int .u64 ((limb 1 (a) : Nat) : Int), .int .u64 ((limb 2 (a) : Nat) : Int), .int .u64 ((limb 3 (a) : Nat) : Int)], .agg #[.int .u64 ((limb 0 (b) : Nat) : Int), .int .u64 ((limb 1 (b) : Nat) : Int), .int .u64 ((limb 2 (b) : Nat) : Int), .int .u64 ((limb 3 (b) : Nat) : Int)]] w fun e w' => e = .returned (.agg #[.int .u64 ((limb 0 (mu a b) : Nat) : Int), .int .u64 ((limb 1 (mu a b) : Nat) : Int), .int .u64 ((limb 2 (mu a b) : Nat) : Int), .int .u64 ((limb 3 (mu a b) : Nat) : Int)]) ∧ Below w.heap.size w w') := hF.2.2.2.2.2
  have HMM : Hid (∀ a b, mu a b < 115792089237316195423570985008687907853269984665640564039457584007913129639936) := hF.2.2.1
  have HHM : Hid (∀ i, hor ad mu (el c) f n i < 115792089237316195423570985008687907853269984665640564039457584007913129639936) := fun i => by
    cases i with
    | zero => exact M_pos
    | succ i => exact hF.2.1 _ _
  have HKM : Hid (el c < 115792089237316195423570985008687907853269984665640564039457584007913129639936) := hF.1 c hc
  obtain ⟨d, ed⟩ : ∃ d, d = el c := ⟨_, rfl⟩
  rw [← ed] at HE HKM HHM ⊢
  have HEC : Hid (∀ w, Glob w → _) := HE
  have HG : Hid (Glob w) := hg
  have HV : Hid (Es w (.slice oa n cn) n f) := hv
  have HFM : Hid (∀ i, i < n → f i < 115792089237316195423570985008687907853269984665640564039457584007913129639936) := hf
  clear hF hg hv hf HE ed hc
  refine (callsIn_wide (n := 4)).1 (callsIn_of_wp_marks Tryd.func12 rfl trivial (wpIn_wide.2 ?_) rfl)
  simp only [Tryd.ntmps12, List.size_toArray, List.length_cons, List.length_nil, Nat.reduceAdd, Nat.reduceSub, Array.replicate_succ, Array.replicate_zero, List.push_toArray, List.append_toArray, List.nil_append, List.cons_append]
  go_wp2_with fail
  obtain ⟨u0, hu0⟩ : ∃ z : World, z = ((w.alloc (.cells #[.int .i64 si] 3)).alloc (.cells #[.int .u64 ((limb 0 (c) : Nat) : Int), .int .u64 ((limb 1 (c) : Nat) : Int), .int .u64 ((limb 2 (c) : Nat) : Int), .int .u64 ((limb 3 (c) : Nat) : Int)] 33)).alloc (.cells #[.int .u64 0, .int .u64 0, .int .u64 0, .int .u64 0] 33) := ⟨_, rfl⟩
  have hs1 : (w.alloc (.cells #[.int .i64 si] 3)).heap.size = w.heap.size + 1 := Array.size_push ..
  have hs2 : ((w.alloc (.cells #[.int .i64 si] 3)).alloc (.cells #[.int .u64 ((limb 0 (c) : Nat) : Int), .int .u64 ((limb 1 (c) : Nat) : Int), .int .u64 ((limb 2 (c) : Nat) : Int), .int .u64 ((limb 3 (c) : Nat) : Int)] 33)).heap.size = w.heap.size + 1 + 1 := by rw [← hs1]; exact Array.size_push ..
  have o3 : One1 u0 3 w.heap.size (.int .i64 si) := by rw [hu0]; exact ((One1.new _ _ _).alloc _).alloc _
  have o5 : Blk u0 33 (w.heap.size + 1) (fun i => limb i c) := by rw [hu0]; exact (Blk.newAt _ _ _ (fun i => limb i c) hs1.symm).alloc _
  have o6 : Blk u0 33 (w.heap.size + 1 + 1) (fun _ => 0) := by rw [hu0]; exact Blk.newAt _ _ _ (fun _ => 0) hs2.symm
  have hb0 : Below w.heap.size w u0 := by rw [hu0]; exact bAlloc (bAlloc (bAlloc (Below.refl _ _) _) _) _
  obtain ⟨N3, e3⟩ : ∃ z, z = w.heap.size := ⟨_, rfl⟩
  obtain ⟨N5, e5⟩ : ∃ z, z = N3 + 1 := ⟨_, rfl⟩
  obtain ⟨N6, e6⟩ : ∃ z, z = N5 + 1 := ⟨_, rfl⟩
  rw [← e3] at o3
  rw [← e3, ← e5] at o5
  rw [← e3, ← e5, ← e6] at o6
  rw [← hu0, ← e3, ← e5, ← e6]
  have n35 : N3 ≠ N5 := by omega
  have n65 : N6 ≠ N5 := by omega
  have l3 : w.heap.size ≤ N3 := by omega
  have l5 : w.heap.size ≤ N5 := by omega
  have l6 : w.heap.size ≤ N6 := by omega
  clear hu0 hs1 hs2 e3 e5 e6
  refine (HEC.out u0 (HG.out.below hb0)).mono ?_
  rintro e u1 ⟨rfl, hb1⟩
  have hbw1 := bStep hb0 hb1
  have r3 := o3.belowAll hb1; have r5 := o5.belowAll hb1; have r6 := o6.belowAll hb1
  clear o3 o5 o6 hb0 hb1 HEC
  have c5 := r5.cell; have f5 := r5.frozen
  obtain ⟨u2, hu2, s5, hk2⟩ := r5.put4 d
  have hbw2 := bKept hbw1 l5 hk2
  have s3 := r3.kept n35 hk2; have s6 := r6.kept n65 hk2
  clear r3 r5 r6 hbw1 hk2
  go_wp2_with fail
  clear hu2 c5 f5
  refine (bwd_any oa n cn _).mono ?_
  rintro e w' ⟨rfl, rfl⟩
  have hs1 : (u2.alloc (.cells #[.int .u64 0, .int .u64 0, .int .u64 0, .int .u64 0] 33)).heap.size = u2.heap.size + 1 := Array.size_push ..
  obtain ⟨w0, hw0⟩ : ∃ z : World, z = (u2.alloc (.cells #[.int .u64 0, .int .u64 0, .int .u64 0, .int .u64 0] 33)).alloc (.cells #[.slice oa n cn] 22) := ⟨_, rfl⟩
  have hs3 : w0.heap.size = u2.heap.size + 1 + 1 := by rw [hw0, ← hs1]; exact Array.size_push ..
  have o7 : Blk w0 33 u2.heap.size (fun i => limb i (hor ad mu d f n (n - n))) := by
    rw [hw0]
    refine ((Blk.newAt _ _ _ (fun _ => 0) rfl).alloc _).congr (fun i _ => ?_)
    rw [Nat.sub_self]
    exact limb_zero i
  have oB : One1 w0 22 (u2.heap.size + 1) (.slice oa n cn) := by rw [hw0]; exact One1.newAt _ _ _ hs1.symm
  have hb2 : Below u2.heap.size u2 w0 := by rw [hw0]; exact bAlloc (bAlloc (Below.refl _ _) _) _
  have o3 := s3.belowAll hb2; have o5 := s5.belowAll hb2; have o6 := s6.belowAll hb2
  have hbw0 := bStep hbw2 hb2
  have k3 := s3.lt; have k5 := s5.lt; have k6 := s6.lt
  go_wp2_with fail
  rw [← hw0]
  obtain ⟨N7, e7⟩ : ∃ z, z = u2.heap.size := ⟨_, rfl⟩
  obtain ⟨NB, eB⟩ : ∃ z, z = N7 + 1 := ⟨_, rfl⟩
  rw [← e7] at o7 k3 k5 k6
  rw [← e7, ← eB] at oB
  rw [← e7, ← eB] at hs3 ⊢
  have n37 : N3 ≠ N7 := by omega
  have n57 : N5 ≠ N7 := by omega
  have n67 : N6 ≠ N7 := by omega
  have nB7 : NB ≠ N7 := by omega
  have n76 : N7 ≠ N6 := by omega
  have l7 : w.heap.size ≤ N7 := by omega
  have lh3 : N3 < w0.heap.size := by omega
  have lh5 : N5 < w0.heap.size := by omega
  have lh6 : N6 < w0.heap.size := by omega
  have lh7 : N7 < w0.heap.size := by omega
  have lhB : NB < w0.heap.size := by omega
  have lhw : w.heap.size ≤ w0.heap.size := hbw0.size
  clear hw0 hs1 hs3 e7 eB k3 k5 k6 s3 s5 s6 hbw2 hb2
  refine wp_backward NB n cn oa f hn rfl rfl
    (fun i W => (Below w.heap.size w W ∧ One1 W 3 N3 (.int .i64 si) ∧ Blk W 33 N5 (fun i => limb i d) ∧ Blk W 33 N6 (fun _ => 0) ∧ Blk W 33 N7 (fun j => limb j (hor ad mu d f n (n - i))) ∧ One1 W 22 NB (.slice oa n cn)) ∧ Hid (i ≤ n))
    (fun _ _ _ => False)
    (fun i W W' hb h => ⟨⟨h.1.1.trans (hb.mono lhw), h.1.2.1.below hb lh3, h.1.2.2.1.below hb lh5, h.1.2.2.2.1.below hb lh6, h.1.2.2.2.2.1.below hb lh7, h.1.2.2.2.2.2.below hb lhB⟩, h.2⟩)
    (fun c i W W' hb h => h.elim)
    (fun i W h => h.1.2.2.2.2.2.cell)
    (fun i W hi h => ?cells) ⟨⟨hbw0, o3, o5, o6, o7, oB⟩, Nat.le_refl _⟩ ?round ?done ?stop
  case cells =>
    rcases HV.out with ⟨_, h0⟩ | ⟨ab, ao, c, hv, _, _, lab, hcell⟩
    · omega
    · cases hv
      exact ⟨ab, ao, rfl, fun j hj => (h.1.1.cell (p := ⟨ab, ao + i * 4 + j, none⟩) lab).trans (hcell i hi j hj)⟩
  case round =>
    rintro l i W hl hlW hi ⟨⟨hbW, p3, p5, p6, p7, pB⟩, HI⟩
    have HXM : Hid (f i < 115792089237316195423570985008687907853269984665640564039457584007913129639936) := HFM.out i hi
    have HVM : Hid (hor ad mu d f n (n - (i + 1)) < 115792089237316195423570985008687907853269984665640564039457584007913129639936) := HHM.out _
    have HRC : Hid (hor ad mu d f n (n - i) = ad (mu (hor ad mu d f n (n - (i + 1))) d) (f i)) := by
      show hor ad mu d f n (n - i) = _
      rw [show n - i = (n - (i + 1)) + 1 by omega]
      show ad _ (f (n - (n - (i + 1) + 1))) = _
      rw [show n - (n - (i + 1) + 1) = i by omega]
    obtain ⟨v, ev⟩ : ∃ v, v = hor ad mu d f n (n - (i + 1)) := ⟨_, rfl⟩
    obtain ⟨x, ex⟩ : ∃ x, x = f i := ⟨_, rfl⟩
    rw [← ex] at HXM HRC ⊢
    rw [← ev] at HVM HRC p7
    have HEV : Hid (v = hor ad mu d f n (n - (i + 1))) := ev
    clear ex ev
    have hM := HMUL.out v d HVM.out HKM.out
    have hmm := HMM.out v d
    obtain ⟨m, em⟩ : ∃ m, m = mu v d := ⟨_, rfl⟩
    rw [← em] at hM hmm HRC
    have hA := HADD.out m x hmm HXM.out
    obtain ⟨y, ey⟩ : ∃ y, y = ad m x := ⟨_, rfl⟩
    rw [← ey] at hA HRC
    have HMU : Hid (∀ w, Glob w → Calls Tryd.prog 23 #[.int .i64 si, .agg #[.int .u64 ((limb 0 (v) : Nat) : Int), .int .u64 ((limb 1 (v) : Nat) : Int), .int .u64 ((limb 2 (v) : Nat) : Int), .int .u64 ((limb 3 (v) : Nat) : Int)], .agg #[.int .u64 ((limb 0 (d) : Nat) : Int), .int .u64 ((limb 1 (d) : Nat) : Int), .int .u64 ((limb 2 (d) : Nat) : Int), .int .u64 ((limb 3 (d) : Nat) : Int)]] w fun e w' => e = .returned (.agg #[.int .u64 ((limb 0 (m) : Nat) : Int), .int .u64 ((limb 1 (m) : Nat) : Int), .int .u64 ((limb 2 (m) : Nat) : Int), .int .u64 ((limb 3 (m) : Nat) : Int)]) ∧ Below w.heap.size w w') := hM
    have HAD : Hid (∀ w, Glob w → Calls Tryd.prog 32 #[.int .i64 si, .agg #[.int .u64 ((limb 0 (m) : Nat) : Int), .int .u64 ((limb 1 (m) : Nat) : Int), .int .u64 ((limb 2 (m) : Nat) : Int), .int .u64 ((limb 3 (m) : Nat) : Int)], .agg #[.int .u64 ((limb 0 (x) : Nat) : Int), .int .u64 ((limb 1 (x) : Nat) : Int), .int .u64 ((limb 2 (x) : Nat) : Int), .int .u64 ((limb 3 (x) : Nat) : Int)]] w fun e w' => e = .returned (.agg #[.int .u64 ((limb 0 (y) : Nat) : Int), .int .u64 ((limb 1 (y) : Nat) : Int), .int .u64 ((limb 2 (y) : Nat) : Int), .int .u64 ((limb 3 (y) : Nat) : Int)]) ∧ Below w.heap.size w w') := hA
    have HY : Hid (y = hor ad mu d f n (n - i)) := HRC.out.symm
    clear ey em hM hA hmm HRC
    gi_wp2
    obtain ⟨W1, hW1⟩ : ∃ z : World, z = W.alloc (.cells #[.int .u64 ((limb 0 (x) : Nat) : Int), .int .u64 ((limb 1 (x) : Nat) : Int), .int .u64 ((limb 2 (x) : Nat) : Int), .int .u64 ((limb 3 (x) : Nat) : Int)] 33) := ⟨_, rfl⟩
    obtain ⟨N9, e9⟩ : ∃ z, z = W.heap.size := ⟨_, rfl⟩
    rw [← hW1, ← e9]
    have hb1 : Below W.heap.size W W1 := by rw [hW1]; exact bAlloc (Below.refl _ _) _
    have b91 : Blk W1 33 N9 (fun i => limb i x) := by rw [hW1]; exact Blk.newAt _ _ _ (fun i => limb i x) e9
    have n9l : N9 ≠ l := by omega
    rw [HEV.out] at p7
    refine ⟨⟨Kr.of_below hb1, ⟨bStep hbW hb1, p3.belowAll hb1, p5.belowAll hb1, p6.belowAll hb1, p7.belowAll hb1, pB.belowAll hb1⟩, HI⟩, ?_⟩
    rintro W2 hk2 hs2 ⟨⟨hbW2, q3, q5, q6, q7, qB⟩, _⟩
    have b9 := same_Blk b91 hk2 n9l
    rw [← HEV.out] at q7
    clear hk2 hs2 b91 hb1 hW1 e9 p3 p5 p6 p7 pB hbW
    have HG2 : Hid (Glob W2) := HG.out.below hbW2
    gi_wp2_with fail
    refine wpIn_region_Z (fun w' => Below W2.heap.size W2 w') 7 (by kernel_rfl) (by kernel_rfl) (by rintro ⟨_, _, h⟩; exact h) ?_
    obtain ⟨wD, hD⟩ : ∃ x : World, x = W2.drew := ⟨_, rfl⟩
    rw [← hD]
    have hp0_0 : Below W2.heap.size W2 wD := by rw [hD]; exact (Below.refl _ _).drew
    have hlow0 : Below W2.heap.size W2 wD := by rw [hD]; exact (Below.refl _ _).drew
    clear hD
    refine wpZ_take (i := 0) (v := .int .i64 si) 17 rfl rfl (by kernel_rfl) (by kernel_rfl) (by kernel_rfl) (Or.inl (by kernel_rfl)) (fun _ _ _ h => h) (Or.inl ⟨by rfl, fun w hSw => by (have qq := (q3.belowAll hSw).cell; clear hSw; go_simp)⟩) hp0_0 ?_
    simp only [Act.put, List.setIfInBounds_toArray]
    dsimp only [List.set_cons_zero, List.set_cons_succ]
    refine wpZ_take (i := 1) (v := .int .i64 si) 18 rfl rfl (by kernel_rfl) (by kernel_rfl) (by kernel_rfl) (Or.inl (by kernel_rfl)) (fun _ _ _ h => h) (Or.inl ⟨by rfl, fun w hSw => by (have qq := (q3.belowAll hSw).cell; clear hSw; go_simp)⟩) hp0_0 ?_
    simp only [Act.put, List.setIfInBounds_toArray]
    dsimp only [List.set_cons_zero, List.set_cons_succ]
    refine wpZ_take (i := 2) (v := .agg #[.int .u64 ((limb 0 (v) : Nat) : Int), .int .u64 ((limb 1 (v) : Nat) : Int), .int .u64 ((limb 2 (v) : Nat) : Int), .int .u64 ((limb 3 (v) : Nat) : Int)]) 19 rfl rfl (by kernel_rfl) (by kernel_rfl) (by kernel_rfl) (Or.inl (by kernel_rfl)) (fun _ _ _ h => h) (Or.inl ⟨by rfl, fun w hSw => by (have qq := (q7.belowAll hSw).cell; clear hSw; go_simp)⟩) hp0_0 ?_
    simp only [Act.put, List.setIfInBounds_toArray]
    dsimp only [List.set_cons_zero, List.set_cons_succ]
    refine wpZ_take (i := 3) (v := .agg #[.int .u64 ((limb 0 (d) : Nat) : Int), .int .u64 ((limb 1 (d) : Nat) : Int), .int .u64 ((limb 2 (d) : Nat) : Int), .int .u64 ((limb 3 (d) : Nat) : Int)]) 20 rfl rfl (by kernel_rfl) (by kernel_rfl) (by kernel_rfl) (Or.inl (by kernel_rfl)) (fun _ _ _ h => h) (Or.inl ⟨by rfl, fun w hSw => by (have qq := (q5.belowAll hSw).cell; clear hSw; go_simp)⟩) hp0_0 ?_
    simp only [Act.put, List.setIfInBounds_toArray]
    dsimp only [List.set_cons_zero, List.set_cons_succ]
    refine wpZ_take (i := 5) (v := .agg #[.int .u64 ((limb 0 (x) : Nat) : Int), .int .u64 ((limb 1 (x) : Nat) : Int), .int .u64 ((limb 2 (x) : Nat) : Int), .int .u64 ((limb 3 (x) : Nat) : Int)]) 22 rfl rfl (by kernel_rfl) (by kernel_rfl) (by kernel_rfl) (Or.inl (by kernel_rfl)) (fun _ _ _ h => h) (Or.inl ⟨by rfl, fun w hSw => by (have qq := (b9.belowAll hSw).cell; clear hSw; go_simp)⟩) hp0_0 ?_
    simp only [Act.put, List.setIfInBounds_toArray]
    dsimp only [List.set_cons_zero, List.set_cons_succ]
    refine wpZ_one (i := 4) (by kernel_rfl) rfl (fun K hK => ?_)
    go_simp
    refine (HMU.out wD (HG2.out.below hlow0)).mono ?_
    rintro e wT1 ⟨rfl, hbT1⟩
    have hlowT1 := bStep hlow0 hbT1
    go_wp2_with fail
    refine hK.out _ _ (fun _ => hlowT1) ?_
    clear hK K hbT1
    refine wpZ_one (i := 6) (by kernel_rfl) rfl (fun K hK => ?_)
    go_simp
    refine (HAD.out wT1 (HG2.out.below hlowT1)).mono ?_
    rintro e wT2 ⟨rfl, hbT2⟩
    have hlowT2 := bStep hlowT1 hbT2
    go_wp2_with fail
    refine hK.out _ _ (fun _ => hlowT2) ?_
    clear hK K hbT2
    refine wpZ_one (i := 7) (by kernel_rfl) rfl (fun K hK => ?_)
    have bS := q7.belowAll hlowT2
    have cS := bS.cell; have fS := bS.frozen
    obtain ⟨W5, hW5, s7, hk5⟩ := bS.put4 y
    go_simp
    refine hK.out _ _ (fun h => absurd rfl h) ?_
    clear hK K
    refine wpZ_done (by kernel_rfl) ?_ _
    have hbW5 := bKept (bStep hbW2 hlowT2) l7 hk5
    have t3 := (q3.belowAll hlowT2).kept n37 hk5; have t5 := (q5.belowAll hlowT2).kept n57 hk5; have t6 := (q6.belowAll hlowT2).kept n67 hk5; have tB := (qB.belowAll hlowT2).kept nB7 hk5
    have kr5 : Kr w0.heap.size W2 W5 := (Kr.of_below hlowT2).trans (Kr.of_kept hk5 lh7)
    rw [HY.out] at s7
    clear bS cS fS hk5
    gi_wp2
    exact ⟨kr5, ⟨hbW5, t3, t5, t6, s7, tB⟩, (by show i ≤ n; omega)⟩
  case done =>
    rintro D W hD ⟨⟨hbW, p3, p5, p6, p7, pB⟩, _⟩ hK
    rw [Nat.sub_zero] at p7
    obtain ⟨y, ey⟩ : ∃ y, y = hor ad mu d f n n := ⟨_, rfl⟩
    rw [← ey] at p7
    have HEY : Hid (y = hor ad mu d f n n) := ey
    clear ey
    have c7 := p7.cell; have c6 := p6.cell; have f6 := p6.frozen
    obtain ⟨W1, hW1, s6, hk6⟩ := p6.put4 y
    have hbW1 := bKept hbW l6 hk6
    have hK1 : W1.heap[D]? = some (.deferred (some [])) := (hk6.block D (Array.getElem?_eq_some_iff.1 hK).1 (by omega)).trans hK
    clear hk6 hbW p3 p5 pB hK p7
    go_wp2
    refine ⟨by simp, .inl ⟨_, _, rfl, run_takeDeferred hK1, ?_⟩⟩
    have hbD := put_below (H := w0.heap.size) (w := W1) hD (.deferred none)
    have c5 := (s6.below hbD lh6).cell
    refine ⟨.agg #[.int .u64 ((limb 0 (y) : Nat) : Int), .int .u64 ((limb 1 (y) : Nat) : Int), .int .u64 ((limb 2 (y) : Nat) : Int), .int .u64 ((limb 3 (y) : Nat) : Int)], by simp [results, Tryd.results12, go_sem, c5], ?_⟩
    exact ⟨by rw [HEY.out], hbW1.trans (hbD.mono lhw)⟩
  case stop =>
    rintro D c i W _ _ h _
    exact h.elim
end Go.Proofs.YtfahhohhpjlhnaaDoor
