/- The reference: Degrees. -/
import Derived.Test.YtimjgebiffemnaaDoorCS4
namespace Go.Proofs.YtimjgebiffemnaaDoor
open Go.RowKit

set_option maxHeartbeats 8000000 in
set_option maxRecDepth 100000 in
theorem rdeg_in (n cn : Nat) (oa : Option Addr) (T : Nat → Int × Int × Int × Nat) (hn : n ≤ 1000000) (w : World) (hv : Rs w (.slice oa n cn) 7 n (fun i => nC (T i))) (ho : ordB n T = true) :
    Calls Tryd.prog 14 #[.slice oa n cn] w fun e w' => (∃ v, e = .returned v ∧ w'.ownsRow w.heap.size 3 1 v n (rwl 1 (fun i _ => .int .i64 (dgs T n i)) n)) ∧ Below w.heap.size w w' := by
  have HR : Hid (∀ w', Below w.heap.size w w' → Rs w' (.slice oa n cn) 7 n (fun i => nC (T i))) := fun w' h => hv.below h
  have HOK : Hid (∀ i, i < n → okN (T i) i = true) := (of_decide_eq_true ho : ∀ i, i < n → okN (T i) i = true)
  obtain ⟨ii, hii, hi0, hi1, hi2⟩ := intInf
  have HII := (show Hid _ from hii); have HZI := (show Hid _ from And.intro hi0 (And.intro hi1 hi2)); clear hii hi0 hi1 hi2
  obtain ⟨B, eB⟩ : ∃ x, x = w.heap.size := ⟨_, rfl⟩
  obtain ⟨w1, ew1⟩ : ∃ x : World, x = w.alloc (.cells #[] 3) := ⟨_, rfl⟩
  have HO1 : Hid (w1.ownsRow B 3 1 (.slice (some ⟨B, 0, none⟩) 0 0) 0 (rwl 1 (fun i _ => .int .i64 (dgs T 0 i)) 0)) := by rw [eB, ew1]; exact own_new w 3 1
  have hb1 : Below w.heap.size w w1 := by rw [ew1]; exact bAlloc (Below.refl _ _) _
  have HB1 : Hid (Below w.heap.size w w1) := hb1
  have HOC : Hid (Calls _ _ _ _ _) := rordered_any n cn oa T hn w1 (hv.below hb1)
  rw [ho] at HOC
  have HBS : Hid (w.heap.size ≤ B) := by rw [eB]; exact Nat.le_refl _
  have HBE : Hid (B = w.heap.size) := eB
  clear hv ho hb1
  go_enter Tryd.func14, Tryd.ntmps14
  go_upto_region 2 with fail
  rw [← ew1, ← eB]
  clear ew1 eB
  go_wp2_with fail
  refine Calls.mono HOC.out ?_
  rintro e w2 ⟨rfl, hb2⟩
  have HO2 : Hid (w2.ownsRow B 3 1 (.slice (some ⟨B, 0, none⟩) 0 0) 0 (rwl 1 (fun i _ => .int .i64 (dgs T 0 i)) 0)) := own_below HO1.out hb2
  have HB2 : Hid (Below w.heap.size w w2) := bStep HB1.out hb2
  clear HOC hb2 HO1 HB1
  go_wp2
  go_loopw [4, 3] (fun iv lv wr => ∃ k : Nat, iv = .int .i64 (k : Int) ∧ k ≤ n ∧ Below w.heap.size w wr ∧ Hid (wr.ownsRow B 3 1 lv k (rwl 1 (fun i _ => .int .i64 (dgs T k i)) k))) (fun iv _ _ => n - (intOf iv).toNat)
  case atStart => exact ⟨0, rfl, Nat.zero_le _, HB2.out, HO2⟩
  case round =>
    obtain ⟨k, rfl, hk, hbr, HOW⟩ := hrel
    obtain ⟨ol, cl, hsh, _⟩ := own_shape HOW.out
    subst hsh
    clear HO2 HB2
    by_cases hlt : k < n
    · have hki : (k : Int) < (n : Int) := by omega
      have hk0 : (0 : Int) ≤ (k : Int) := by omega
      rcases HR.out wr hbr with ⟨_, h0⟩ | ⟨ab, ao, c', hv, _, _, lab, hcell⟩
      · omega
      cases hv
      obtain ⟨O, X, Y, Z, hE⟩ : ∃ O A B V, T k = (O, A, B, V) := ⟨_, _, _, _, rfl⟩
      have ca : ∀ j, j < 7 → wr.cell? ⟨ab, ao + k * 7 + j, none⟩ = some (nC (T k) j) := fun j hj => hcell k hlt j hj
      rw [hE] at ca
      have hok := HOK.out k hlt
      unfold okN at hok
      rw [hE, Bool.and_eq_true] at hok
      have hO : 1 ≤ O ∧ O ≤ 8 := of_decide_eq_true hok.1
      have hAh : ∀ j, j < uN O → 0 ≤ uF X Y j ∧ uF X Y j < (k : Int) := of_decide_eq_true hok.2
      have HAH : Hid (∀ j, j < uN O → 0 ≤ uF X Y j ∧ uF X Y j < (k : Int)) := hAh
      have HE : Hid (T k = (O, X, Y, Z)) := hE
      have HRG : Hid (∀ i, 0 ≤ dgs T k i ∧ dgs T k i ≤ 1000) := fun i => dgs_range T k (fun i hi => HOK.out i (by omega)) i
      obtain ⟨t0, t1, t2, t3, t4, t5, t6⟩ := nC_cells O X Y Z
      have a0 := ca 0 (by decide); have a1 := ca 1 (by decide); have a2 := ca 2 (by decide); have a3 := ca 3 (by decide); have a4 := ca 4 (by decide); have a5 := ca 5 (by decide); have a6 := ca 6 (by decide)
      rw [t0] at a0; rw [t1] at a1; rw [t2] at a2; rw [t3] at a3; rw [t4] at a4; rw [t5] at a5; rw [t6] at a6
      rw [Nat.add_zero] at a0
      have HBL : Hid (B ≤ wr.heap.size) := by rw [HBE.out]; exact hbr.size
      have HBR : Hid (Below w.heap.size w wr) := hbr
      clear ca t0 t1 t2 t3 t4 t5 t6 hE lab hcell hok hAh hbr
      obtain ⟨w3, ew3⟩ : ∃ x : World, x = wr.alloc (.cells #[.int .i64 O, .int .i64 X, .int .i64 Y, .int .u64 ((limb 0 Z : Nat) : Int), .int .u64 ((limb 1 Z : Nat) : Int), .int .u64 ((limb 2 Z : Nat) : Int), .int .u64 ((limb 3 Z : Nat) : Int)] 46) := ⟨_, rfl⟩
      have HWR : Hid (Below wr.heap.size wr w3) := by rw [ew3]; exact bAlloc (Below.refl _ _) _
      obtain ⟨b5, eb5⟩ : ∃ x, x = wr.heap.size := ⟨_, rfl⟩
      have f3 : w3.heap[b5]? = some (.cells #[.int .i64 O, .int .i64 X, .int .i64 Y, .int .u64 ((limb 0 Z : Nat) : Int), .int .u64 ((limb 1 Z : Nat) : Int), .int .u64 ((limb 2 Z : Nat) : Int), .int .u64 ((limb 3 Z : Nat) : Int)] 46) := by rw [ew3, eb5]; show (wr.heap.push _)[wr.heap.size]? = _; simp
      go_upto_region 8 with fail
      rw [← ew3, ← eb5]
      clear ew3 eb5 a0 a1 a2 a3 a4 a5 a6
      have hc : O = 1 ∨ O = 2 ∨ O = 3 ∨ O = 4 ∨ O = 5 ∨ O = 6 ∨ O = 7 ∨ O = 8 := by omega
      clear hO
      rcases hc with rfl | rfl | rfl | rfl | rfl | rfl | rfl | rfl
      · obtain ⟨d0, d1, d2, d3, d4, d5, d6⟩ := cells7 f3
        have HD : Hid ((0 : Int) = dstep (T k) (dgs T k)) := by
          show (0 : Int) = _
          rw [HE.out]
          rfl
        have HOA : Hid ((w3.alloc (.cells #[.int .i64 (0)] 3)).ownsRow B 3 1 (.slice ol k cl) k (rwl 1 (fun i _ => .int .i64 (dgs T k i)) k)) := own_below (own_below HOW.out HWR.out) (bAlloc (Below.refl _ _) _)
        have HON1 := one_Rs w3 3 (.int .i64 (0))
        have HSZ : Hid (B ≤ (w3.alloc (.cells #[.int .i64 (0)] 3)).heap.size) := by have h1 := HWR.out.size; have h2 := HBL.out; show _ ≤ _; simp; omega
        have HBQ : Hid (Below w.heap.size w (w3.alloc (.cells #[.int .i64 (0)] 3))) := bAlloc (bStep HBR.out HWR.out) _
        clear HOW HWR
        go_wp2_with (first
          | (at_builtin; refine wpList_appR _ rfl _ _ 28 rfl B 3 ii (.int .i64 0) 1 8 Tryd.underlying28 HII.out HZI.out.1 HZI.out.2.1 HZI.out.2.2 rfl (by decide) _ k _ rfl HOA.out 1 _ _ rfl HON1 (fun i _ j _ => rfl) ?c1 ?c2 HSZ.out ?_)
          | go_in)
        case c1 => unfold maxLen; omega
        case c2 => omega
        intro v' w7 hown7 hgrow7 hsep7
        have HNX : Hid (w7.ownsRow B 3 1 v' (k + 1) (rwl 1 (fun i _ => .int .i64 (dgs T (k + 1) i)) (k + 1))) := by
          rw [rwl_congr (G := fun i => if i < k then (fun _ => .int .i64 (dgs T k i)) else (fun _ => .int .i64 (0))) (fun i hi j _ => by
            show Value.int .i64 (if i = k then dstep (T k) (dgs T k) else dgs T k i) = _
            by_cases h1 : i < k
            · rw [if_neg (by omega), if_pos h1]
            · rw [if_pos (by omega), if_neg h1, ← HD.out])]
          exact hown7
        have HB7 : Hid (Below w.heap.size w w7) := HBQ.out.grown hgrow7 (Nat.le_trans HBS.out HSZ.out) (fun j hj => Nat.le_trans HBS.out (own_ge HOA.out hj))
        clear hown7 hgrow7 hsep7 HON1 HBQ HOA HSZ HD
        go_wp2
        go_roundw
        case measure => simp [intOf]; omega
        case rel => exact ⟨k + 1, by go_num, hlt, HB7.out, HNX⟩
      · obtain ⟨d0, d1, d2, d3, d4, d5, d6⟩ := cells7 f3
        have HD : Hid ((1 : Int) = dstep (T k) (dgs T k)) := by
          show (1 : Int) = _
          rw [HE.out]
          rfl
        have HOA : Hid ((w3.alloc (.cells #[.int .i64 (1)] 3)).ownsRow B 3 1 (.slice ol k cl) k (rwl 1 (fun i _ => .int .i64 (dgs T k i)) k)) := own_below (own_below HOW.out HWR.out) (bAlloc (Below.refl _ _) _)
        have HON1 := one_Rs w3 3 (.int .i64 (1))
        have HSZ : Hid (B ≤ (w3.alloc (.cells #[.int .i64 (1)] 3)).heap.size) := by have h1 := HWR.out.size; have h2 := HBL.out; show _ ≤ _; simp; omega
        have HBQ : Hid (Below w.heap.size w (w3.alloc (.cells #[.int .i64 (1)] 3))) := bAlloc (bStep HBR.out HWR.out) _
        clear HOW HWR
        go_wp2_with (first
          | (at_builtin; refine wpList_appR _ rfl _ _ 28 rfl B 3 ii (.int .i64 0) 1 8 Tryd.underlying28 HII.out HZI.out.1 HZI.out.2.1 HZI.out.2.2 rfl (by decide) _ k _ rfl HOA.out 1 _ _ rfl HON1 (fun i _ j _ => rfl) ?c1 ?c2 HSZ.out ?_)
          | go_in)
        case c1 => unfold maxLen; omega
        case c2 => omega
        intro v' w7 hown7 hgrow7 hsep7
        have HNX : Hid (w7.ownsRow B 3 1 v' (k + 1) (rwl 1 (fun i _ => .int .i64 (dgs T (k + 1) i)) (k + 1))) := by
          rw [rwl_congr (G := fun i => if i < k then (fun _ => .int .i64 (dgs T k i)) else (fun _ => .int .i64 (1))) (fun i hi j _ => by
            show Value.int .i64 (if i = k then dstep (T k) (dgs T k) else dgs T k i) = _
            by_cases h1 : i < k
            · rw [if_neg (by omega), if_pos h1]
            · rw [if_pos (by omega), if_neg h1, ← HD.out])]
          exact hown7
        have HB7 : Hid (Below w.heap.size w w7) := HBQ.out.grown hgrow7 (Nat.le_trans HBS.out HSZ.out) (fun j hj => Nat.le_trans HBS.out (own_ge HOA.out hj))
        clear hown7 hgrow7 hsep7 HON1 HBQ HOA HSZ HD
        go_wp2
        go_roundw
        case measure => simp [intOf]; omega
        case rel => exact ⟨k + 1, by go_num, hlt, HB7.out, HNX⟩
      · obtain ⟨d0, d1, d2, d3, d4, d5, d6⟩ := cells7 f3
        have HD : Hid ((1 : Int) = dstep (T k) (dgs T k)) := by
          show (1 : Int) = _
          rw [HE.out]
          rfl
        have HOA : Hid ((w3.alloc (.cells #[.int .i64 (1)] 3)).ownsRow B 3 1 (.slice ol k cl) k (rwl 1 (fun i _ => .int .i64 (dgs T k i)) k)) := own_below (own_below HOW.out HWR.out) (bAlloc (Below.refl _ _) _)
        have HON1 := one_Rs w3 3 (.int .i64 (1))
        have HSZ : Hid (B ≤ (w3.alloc (.cells #[.int .i64 (1)] 3)).heap.size) := by have h1 := HWR.out.size; have h2 := HBL.out; show _ ≤ _; simp; omega
        have HBQ : Hid (Below w.heap.size w (w3.alloc (.cells #[.int .i64 (1)] 3))) := bAlloc (bStep HBR.out HWR.out) _
        clear HOW HWR
        go_wp2_with (first
          | (at_builtin; refine wpList_appR _ rfl _ _ 28 rfl B 3 ii (.int .i64 0) 1 8 Tryd.underlying28 HII.out HZI.out.1 HZI.out.2.1 HZI.out.2.2 rfl (by decide) _ k _ rfl HOA.out 1 _ _ rfl HON1 (fun i _ j _ => rfl) ?c1 ?c2 HSZ.out ?_)
          | go_in)
        case c1 => unfold maxLen; omega
        case c2 => omega
        intro v' w7 hown7 hgrow7 hsep7
        have HNX : Hid (w7.ownsRow B 3 1 v' (k + 1) (rwl 1 (fun i _ => .int .i64 (dgs T (k + 1) i)) (k + 1))) := by
          rw [rwl_congr (G := fun i => if i < k then (fun _ => .int .i64 (dgs T k i)) else (fun _ => .int .i64 (1))) (fun i hi j _ => by
            show Value.int .i64 (if i = k then dstep (T k) (dgs T k) else dgs T k i) = _
            by_cases h1 : i < k
            · rw [if_neg (by omega), if_pos h1]
            · rw [if_pos (by omega), if_neg h1, ← HD.out])]
          exact hown7
        have HB7 : Hid (Below w.heap.size w w7) := HBQ.out.grown hgrow7 (Nat.le_trans HBS.out HSZ.out) (fun j hj => Nat.le_trans HBS.out (own_ge HOA.out hj))
        clear hown7 hgrow7 hsep7 HON1 HBQ HOA HSZ HD
        go_wp2
        go_roundw
        case measure => simp [intOf]; omega
        case rel => exact ⟨k + 1, by go_num, hlt, HB7.out, HNX⟩
      · obtain ⟨d0, d1, d2, d3, d4, d5, d6⟩ := cells7 f3
        have HD : Hid ((1 : Int) = dstep (T k) (dgs T k)) := by
          show (1 : Int) = _
          rw [HE.out]
          rfl
        have HOA : Hid ((w3.alloc (.cells #[.int .i64 (1)] 3)).ownsRow B 3 1 (.slice ol k cl) k (rwl 1 (fun i _ => .int .i64 (dgs T k i)) k)) := own_below (own_below HOW.out HWR.out) (bAlloc (Below.refl _ _) _)
        have HON1 := one_Rs w3 3 (.int .i64 (1))
        have HSZ : Hid (B ≤ (w3.alloc (.cells #[.int .i64 (1)] 3)).heap.size) := by have h1 := HWR.out.size; have h2 := HBL.out; show _ ≤ _; simp; omega
        have HBQ : Hid (Below w.heap.size w (w3.alloc (.cells #[.int .i64 (1)] 3))) := bAlloc (bStep HBR.out HWR.out) _
        clear HOW HWR
        go_wp2_with (first
          | (at_builtin; refine wpList_appR _ rfl _ _ 28 rfl B 3 ii (.int .i64 0) 1 8 Tryd.underlying28 HII.out HZI.out.1 HZI.out.2.1 HZI.out.2.2 rfl (by decide) _ k _ rfl HOA.out 1 _ _ rfl HON1 (fun i _ j _ => rfl) ?c1 ?c2 HSZ.out ?_)
          | go_in)
        case c1 => unfold maxLen; omega
        case c2 => omega
        intro v' w7 hown7 hgrow7 hsep7
        have HNX : Hid (w7.ownsRow B 3 1 v' (k + 1) (rwl 1 (fun i _ => .int .i64 (dgs T (k + 1) i)) (k + 1))) := by
          rw [rwl_congr (G := fun i => if i < k then (fun _ => .int .i64 (dgs T k i)) else (fun _ => .int .i64 (1))) (fun i hi j _ => by
            show Value.int .i64 (if i = k then dstep (T k) (dgs T k) else dgs T k i) = _
            by_cases h1 : i < k
            · rw [if_neg (by omega), if_pos h1]
            · rw [if_pos (by omega), if_neg h1, ← HD.out])]
          exact hown7
        have HB7 : Hid (Below w.heap.size w w7) := HBQ.out.grown hgrow7 (Nat.le_trans HBS.out HSZ.out) (fun j hj => Nat.le_trans HBS.out (own_ge HOA.out hj))
        clear hown7 hgrow7 hsep7 HON1 HBQ HOA HSZ HD
        go_wp2
        go_roundw
        case measure => simp [intOf]; omega
        case rel => exact ⟨k + 1, by go_num, hlt, HB7.out, HNX⟩
      · rcases own_Rs (own_below HOW.out HWR.out) with ⟨_, h0⟩ | ⟨gb, go, c2, hv2, _, _, _, hcell2⟩
        · have := (HAH.out 0 (by decide)); omega
        cases hv2
        have hoc : ∀ a, a < k → w3.cell? ⟨gb, go + a, none⟩ = some (.int .i64 (dgs T k a)) := fun a ha => by have h := hcell2 a ha 0 (by decide); rw [Nat.mul_one, Nat.add_zero] at h; exact h
        clear hcell2
        have hA0 : 0 ≤ X ∧ X < (k : Int) := HAH.out 0 (by decide)
        obtain ⟨a, ea⟩ : ∃ a : Nat, X = (a : Int) := ⟨(X).toNat, by omega⟩
        subst ea
        have hla : (a : Int) < (k : Int) := hA0.2
        have h0a : (0 : Int) ≤ (a : Int) := by omega
        have xc := hoc a (by omega)
        obtain ⟨x, ex⟩ : ∃ x, x = dgs T k a := ⟨_, rfl⟩
        rw [← ex] at xc
        have xr : 0 ≤ x ∧ x ≤ 1000 := by rw [ex]; exact HRG.out a
        have x0 := xr.1; have x1 := xr.2
        have Hx : Hid (x = dgs T k a) := ex
        clear xr ex hA0
        obtain ⟨d0, d1, d2, d3, d4, d5, d6⟩ := cells7 f3
        clear hoc
        have HD : Hid (x = dstep (T k) (dgs T k)) := by
          show x = _
          rw [HE.out]
          rw [Hx.out]; rfl
        have x2 : ¬ (1000 : Int) < x := by omega
        have HOA : Hid ((w3.alloc (.cells #[.int .i64 (x)] 3)).ownsRow B 3 1 (.slice (some ⟨gb, go, none⟩) k cl) k (rwl 1 (fun i _ => .int .i64 (dgs T k i)) k)) := own_below (own_below HOW.out HWR.out) (bAlloc (Below.refl _ _) _)
        have HON1 := one_Rs w3 3 (.int .i64 (x))
        have HSZ : Hid (B ≤ (w3.alloc (.cells #[.int .i64 (x)] 3)).heap.size) := by have h1 := HWR.out.size; have h2 := HBL.out; show _ ≤ _; simp; omega
        have HBQ : Hid (Below w.heap.size w (w3.alloc (.cells #[.int .i64 (x)] 3))) := bAlloc (bStep HBR.out HWR.out) _
        clear HOW HWR
        go_wp2_with (first
          | (at_builtin; refine wpList_appR _ rfl _ _ 28 rfl B 3 ii (.int .i64 0) 1 8 Tryd.underlying28 HII.out HZI.out.1 HZI.out.2.1 HZI.out.2.2 rfl (by decide) _ k _ rfl HOA.out 1 _ _ rfl HON1 (fun i _ j _ => rfl) ?c1 ?c2 HSZ.out ?_)
          | go_in)
        case c1 => unfold maxLen; omega
        case c2 => omega
        intro v' w7 hown7 hgrow7 hsep7
        have HNX : Hid (w7.ownsRow B 3 1 v' (k + 1) (rwl 1 (fun i _ => .int .i64 (dgs T (k + 1) i)) (k + 1))) := by
          rw [rwl_congr (G := fun i => if i < k then (fun _ => .int .i64 (dgs T k i)) else (fun _ => .int .i64 (x))) (fun i hi j _ => by
            show Value.int .i64 (if i = k then dstep (T k) (dgs T k) else dgs T k i) = _
            by_cases h1 : i < k
            · rw [if_neg (by omega), if_pos h1]
            · rw [if_pos (by omega), if_neg h1, ← HD.out])]
          exact hown7
        have HB7 : Hid (Below w.heap.size w w7) := HBQ.out.grown hgrow7 (Nat.le_trans HBS.out HSZ.out) (fun j hj => Nat.le_trans HBS.out (own_ge HOA.out hj))
        clear hown7 hgrow7 hsep7 HON1 HBQ HOA HSZ HD
        go_wp2
        go_roundw
        case measure => simp [intOf]; omega
        case rel => exact ⟨k + 1, by go_num, hlt, HB7.out, HNX⟩
      · rcases own_Rs (own_below HOW.out HWR.out) with ⟨_, h0⟩ | ⟨gb, go, c2, hv2, _, _, _, hcell2⟩
        · have := (HAH.out 0 (by decide)); omega
        cases hv2
        have hoc : ∀ a, a < k → w3.cell? ⟨gb, go + a, none⟩ = some (.int .i64 (dgs T k a)) := fun a ha => by have h := hcell2 a ha 0 (by decide); rw [Nat.mul_one, Nat.add_zero] at h; exact h
        clear hcell2
        have hA0 : 0 ≤ X ∧ X < (k : Int) := HAH.out 0 (by decide)
        obtain ⟨a, ea⟩ : ∃ a : Nat, X = (a : Int) := ⟨(X).toNat, by omega⟩
        subst ea
        have hla : (a : Int) < (k : Int) := hA0.2
        have h0a : (0 : Int) ≤ (a : Int) := by omega
        have xc := hoc a (by omega)
        obtain ⟨x, ex⟩ : ∃ x, x = dgs T k a := ⟨_, rfl⟩
        rw [← ex] at xc
        have xr : 0 ≤ x ∧ x ≤ 1000 := by rw [ex]; exact HRG.out a
        have x0 := xr.1; have x1 := xr.2
        have Hx : Hid (x = dgs T k a) := ex
        clear xr ex hA0
        have hA1 : 0 ≤ Y ∧ Y < (k : Int) := HAH.out 1 (by decide)
        obtain ⟨b, eb⟩ : ∃ b : Nat, Y = (b : Int) := ⟨(Y).toNat, by omega⟩
        subst eb
        have hlb : (b : Int) < (k : Int) := hA1.2
        have h0b : (0 : Int) ≤ (b : Int) := by omega
        have yc := hoc b (by omega)
        obtain ⟨y, ey⟩ : ∃ x, x = dgs T k b := ⟨_, rfl⟩
        rw [← ey] at yc
        have yr : 0 ≤ y ∧ y ≤ 1000 := by rw [ey]; exact HRG.out b
        have y0 := yr.1; have y1 := yr.2
        have Hy : Hid (y = dgs T k b) := ey
        clear yr ey hA1
        obtain ⟨d0, d1, d2, d3, d4, d5, d6⟩ := cells7 f3
        clear hoc
        have x2 : ¬ (1000 : Int) < x := by omega
        have y2 : ¬ (1000 : Int) < y := by omega
        by_cases hxy : x < y
        · have HD : Hid (y = dstep (T k) (dgs T k)) := by
            show y = _
            rw [HE.out]
            rw [show dstep (6, (a : Int), (b : Int), Z) (dgs T k) = max (dgs T k a) (dgs T k b) from rfl, ← Hx.out, ← Hy.out]; omega
          have HOA : Hid ((w3.alloc (.cells #[.int .i64 (y)] 3)).ownsRow B 3 1 (.slice (some ⟨gb, go, none⟩) k cl) k (rwl 1 (fun i _ => .int .i64 (dgs T k i)) k)) := own_below (own_below HOW.out HWR.out) (bAlloc (Below.refl _ _) _)
          have HON1 := one_Rs w3 3 (.int .i64 (y))
          have HSZ : Hid (B ≤ (w3.alloc (.cells #[.int .i64 (y)] 3)).heap.size) := by have h1 := HWR.out.size; have h2 := HBL.out; show _ ≤ _; simp; omega
          have HBQ : Hid (Below w.heap.size w (w3.alloc (.cells #[.int .i64 (y)] 3))) := bAlloc (bStep HBR.out HWR.out) _
          clear HOW HWR
          go_wp2_with (first
            | (at_builtin; refine wpList_appR _ rfl _ _ 28 rfl B 3 ii (.int .i64 0) 1 8 Tryd.underlying28 HII.out HZI.out.1 HZI.out.2.1 HZI.out.2.2 rfl (by decide) _ k _ rfl HOA.out 1 _ _ rfl HON1 (fun i _ j _ => rfl) ?c1 ?c2 HSZ.out ?_)
            | go_in)
          case c1 => unfold maxLen; omega
          case c2 => omega
          intro v' w7 hown7 hgrow7 hsep7
          have HNX : Hid (w7.ownsRow B 3 1 v' (k + 1) (rwl 1 (fun i _ => .int .i64 (dgs T (k + 1) i)) (k + 1))) := by
            rw [rwl_congr (G := fun i => if i < k then (fun _ => .int .i64 (dgs T k i)) else (fun _ => .int .i64 (y))) (fun i hi j _ => by
              show Value.int .i64 (if i = k then dstep (T k) (dgs T k) else dgs T k i) = _
              by_cases h1 : i < k
              · rw [if_neg (by omega), if_pos h1]
              · rw [if_pos (by omega), if_neg h1, ← HD.out])]
            exact hown7
          have HB7 : Hid (Below w.heap.size w w7) := HBQ.out.grown hgrow7 (Nat.le_trans HBS.out HSZ.out) (fun j hj => Nat.le_trans HBS.out (own_ge HOA.out hj))
          clear hown7 hgrow7 hsep7 HON1 HBQ HOA HSZ HD
          go_wp2
          go_roundw
          case measure => simp [intOf]; omega
          case rel => exact ⟨k + 1, by go_num, hlt, HB7.out, HNX⟩
        have HD : Hid (x = dstep (T k) (dgs T k)) := by
          show x = _
          rw [HE.out]
          rw [show dstep (6, (a : Int), (b : Int), Z) (dgs T k) = max (dgs T k a) (dgs T k b) from rfl, ← Hx.out, ← Hy.out]; omega
        have HOA : Hid ((w3.alloc (.cells #[.int .i64 (x)] 3)).ownsRow B 3 1 (.slice (some ⟨gb, go, none⟩) k cl) k (rwl 1 (fun i _ => .int .i64 (dgs T k i)) k)) := own_below (own_below HOW.out HWR.out) (bAlloc (Below.refl _ _) _)
        have HON1 := one_Rs w3 3 (.int .i64 (x))
        have HSZ : Hid (B ≤ (w3.alloc (.cells #[.int .i64 (x)] 3)).heap.size) := by have h1 := HWR.out.size; have h2 := HBL.out; show _ ≤ _; simp; omega
        have HBQ : Hid (Below w.heap.size w (w3.alloc (.cells #[.int .i64 (x)] 3))) := bAlloc (bStep HBR.out HWR.out) _
        clear HOW HWR
        go_wp2_with (first
          | (at_builtin; refine wpList_appR _ rfl _ _ 28 rfl B 3 ii (.int .i64 0) 1 8 Tryd.underlying28 HII.out HZI.out.1 HZI.out.2.1 HZI.out.2.2 rfl (by decide) _ k _ rfl HOA.out 1 _ _ rfl HON1 (fun i _ j _ => rfl) ?c1 ?c2 HSZ.out ?_)
          | go_in)
        case c1 => unfold maxLen; omega
        case c2 => omega
        intro v' w7 hown7 hgrow7 hsep7
        have HNX : Hid (w7.ownsRow B 3 1 v' (k + 1) (rwl 1 (fun i _ => .int .i64 (dgs T (k + 1) i)) (k + 1))) := by
          rw [rwl_congr (G := fun i => if i < k then (fun _ => .int .i64 (dgs T k i)) else (fun _ => .int .i64 (x))) (fun i hi j _ => by
            show Value.int .i64 (if i = k then dstep (T k) (dgs T k) else dgs T k i) = _
            by_cases h1 : i < k
            · rw [if_neg (by omega), if_pos h1]
            · rw [if_pos (by omega), if_neg h1, ← HD.out])]
          exact hown7
        have HB7 : Hid (Below w.heap.size w w7) := HBQ.out.grown hgrow7 (Nat.le_trans HBS.out HSZ.out) (fun j hj => Nat.le_trans HBS.out (own_ge HOA.out hj))
        clear hown7 hgrow7 hsep7 HON1 HBQ HOA HSZ HD
        go_wp2
        go_roundw
        case measure => simp [intOf]; omega
        case rel => exact ⟨k + 1, by go_num, hlt, HB7.out, HNX⟩
      · rcases own_Rs (own_below HOW.out HWR.out) with ⟨_, h0⟩ | ⟨gb, go, c2, hv2, _, _, _, hcell2⟩
        · have := (HAH.out 0 (by decide)); omega
        cases hv2
        have hoc : ∀ a, a < k → w3.cell? ⟨gb, go + a, none⟩ = some (.int .i64 (dgs T k a)) := fun a ha => by have h := hcell2 a ha 0 (by decide); rw [Nat.mul_one, Nat.add_zero] at h; exact h
        clear hcell2
        have hA0 : 0 ≤ X ∧ X < (k : Int) := HAH.out 0 (by decide)
        obtain ⟨a, ea⟩ : ∃ a : Nat, X = (a : Int) := ⟨(X).toNat, by omega⟩
        subst ea
        have hla : (a : Int) < (k : Int) := hA0.2
        have h0a : (0 : Int) ≤ (a : Int) := by omega
        have xc := hoc a (by omega)
        obtain ⟨x, ex⟩ : ∃ x, x = dgs T k a := ⟨_, rfl⟩
        rw [← ex] at xc
        have xr : 0 ≤ x ∧ x ≤ 1000 := by rw [ex]; exact HRG.out a
        have x0 := xr.1; have x1 := xr.2
        have Hx : Hid (x = dgs T k a) := ex
        clear xr ex hA0
        have hA1 : 0 ≤ Y ∧ Y < (k : Int) := HAH.out 1 (by decide)
        obtain ⟨b, eb⟩ : ∃ b : Nat, Y = (b : Int) := ⟨(Y).toNat, by omega⟩
        subst eb
        have hlb : (b : Int) < (k : Int) := hA1.2
        have h0b : (0 : Int) ≤ (b : Int) := by omega
        have yc := hoc b (by omega)
        obtain ⟨y, ey⟩ : ∃ x, x = dgs T k b := ⟨_, rfl⟩
        rw [← ey] at yc
        have yr : 0 ≤ y ∧ y ≤ 1000 := by rw [ey]; exact HRG.out b
        have y0 := yr.1; have y1 := yr.2
        have Hy : Hid (y = dgs T k b) := ey
        clear yr ey hA1
        obtain ⟨d0, d1, d2, d3, d4, d5, d6⟩ := cells7 f3
        clear hoc
        go_upto_region 22 with fail
        refine wp_region_Z (fun w' => w'.heap[b5]? = some (.cells #[.int .i64 7, .int .i64 (a : Int), .int .i64 (b : Int), .int .u64 ((limb 0 Z : Nat) : Int), .int .u64 ((limb 1 Z : Nat) : Int), .int .u64 ((limb 2 Z : Nat) : Int), .int .u64 ((limb 3 Z : Nat) : Int)] 46) ∧ w'.cell? ⟨gb, go + a, none⟩ = some (.int .i64 x) ∧ w'.cell? ⟨gb, go + b, none⟩ = some (.int .i64 y)) 12 (by kernel_rfl) ?_
        obtain ⟨wD, hD⟩ : ∃ z : World, z = w3.drew := ⟨_, rfl⟩
        rw [← hD]
        have hp : wD.heap[b5]? = some (.cells #[.int .i64 7, .int .i64 (a : Int), .int .i64 (b : Int), .int .u64 ((limb 0 Z : Nat) : Int), .int .u64 ((limb 1 Z : Nat) : Int), .int .u64 ((limb 2 Z : Nat) : Int), .int .u64 ((limb 3 Z : Nat) : Int)] 46) ∧ wD.cell? ⟨gb, go + a, none⟩ = some (.int .i64 x) ∧ wD.cell? ⟨gb, go + b, none⟩ = some (.int .i64 y) := by rw [hD]; exact ⟨f3, xc, yc⟩
        have HWD : Hid (Below wr.heap.size wr wD) := by rw [hD]; exact bStep HWR.out (Below.refl _ _).drew
        clear hD f3 xc yc d0 d1 d2 d3 d4 d5 d6 HWR
        have hxw : IntKind.i64.wrap (x + y) = x + y := by simp [IntKind.wrap, IntKind.bits, IntKind.signed]; omega
        refine zt 0 57 (.slice (some ⟨gb, go, none⟩) k cl) rfl rfl (fun w hSw => by go_simp) hp ?_
        simp only [Act.put, List.setIfInBounds_toArray]
        dsimp only [List.set_cons_zero, List.set_cons_succ]
        refine zt 1 58 (.pointer (some ⟨b5, 1, none⟩)) rfl rfl (fun w hSw => by go_simp) hp ?_
        simp only [Act.put, List.setIfInBounds_toArray]
        dsimp only [List.set_cons_zero, List.set_cons_succ]
        refine zt 2 59 (.int .i64 (a : Int)) rfl rfl (fun w hSw => by obtain ⟨d0, d1, d2, d3, d4, d5, d6⟩ := cells7 hSw.1; have xc := hSw.2.1; have yc := hSw.2.2; go_simp) hp ?_
        simp only [Act.put, List.setIfInBounds_toArray]
        dsimp only [List.set_cons_zero, List.set_cons_succ]
        refine zt 3 60 (.pointer (some ⟨gb, go + a, none⟩)) rfl rfl (fun w hSw => by go_simp) hp ?_
        simp only [Act.put, List.setIfInBounds_toArray]
        dsimp only [List.set_cons_zero, List.set_cons_succ]
        refine zt 4 61 (.int .i64 x) rfl rfl (fun w hSw => by obtain ⟨d0, d1, d2, d3, d4, d5, d6⟩ := cells7 hSw.1; have xc := hSw.2.1; have yc := hSw.2.2; go_simp) hp ?_
        simp only [Act.put, List.setIfInBounds_toArray]
        dsimp only [List.set_cons_zero, List.set_cons_succ]
        refine zt 5 62 (.slice (some ⟨gb, go, none⟩) k cl) rfl rfl (fun w hSw => by go_simp) hp ?_
        simp only [Act.put, List.setIfInBounds_toArray]
        dsimp only [List.set_cons_zero, List.set_cons_succ]
        refine zt 6 63 (.pointer (some ⟨b5, 2, none⟩)) rfl rfl (fun w hSw => by go_simp) hp ?_
        simp only [Act.put, List.setIfInBounds_toArray]
        dsimp only [List.set_cons_zero, List.set_cons_succ]
        refine zt 7 64 (.int .i64 (b : Int)) rfl rfl (fun w hSw => by obtain ⟨d0, d1, d2, d3, d4, d5, d6⟩ := cells7 hSw.1; have xc := hSw.2.1; have yc := hSw.2.2; go_simp) hp ?_
        simp only [Act.put, List.setIfInBounds_toArray]
        dsimp only [List.set_cons_zero, List.set_cons_succ]
        refine zt 8 65 (.pointer (some ⟨gb, go + b, none⟩)) rfl rfl (fun w hSw => by go_simp) hp ?_
        simp only [Act.put, List.setIfInBounds_toArray]
        dsimp only [List.set_cons_zero, List.set_cons_succ]
        refine zt 9 66 (.int .i64 y) rfl rfl (fun w hSw => by obtain ⟨d0, d1, d2, d3, d4, d5, d6⟩ := cells7 hSw.1; have xc := hSw.2.1; have yc := hSw.2.2; go_simp) hp ?_
        simp only [Act.put, List.setIfInBounds_toArray]
        dsimp only [List.set_cons_zero, List.set_cons_succ]
        refine zt 10 67 (.int .i64 (x + y)) rfl rfl (fun w hSw => by go_simp) hp ?_
        simp only [Act.put, List.setIfInBounds_toArray]
        dsimp only [List.set_cons_zero, List.set_cons_succ]
        refine zt 11 6 (.int .i64 (x + y)) rfl rfl (fun w hSw => by go_simp) hp ?_
        simp only [Act.put, List.setIfInBounds_toArray]
        dsimp only [List.set_cons_zero, List.set_cons_succ]
        refine wpZ_done (by kernel_rfl) ?_ _
        clear hp
        have HWR : Hid (Below wr.heap.size wr wD) := HWD
        clear HWD
        by_cases hxy : 1000 < x + y
        · have HD : Hid ((1000 : Int) = dstep (T k) (dgs T k)) := by
            show (1000 : Int) = _
            rw [HE.out]
            rw [show dstep (7, (a : Int), (b : Int), Z) (dgs T k) = min (dgs T k a + dgs T k b) 1000 from rfl, ← Hx.out, ← Hy.out]; omega
          have HOA : Hid ((wD.alloc (.cells #[.int .i64 (1000)] 3)).ownsRow B 3 1 (.slice (some ⟨gb, go, none⟩) k cl) k (rwl 1 (fun i _ => .int .i64 (dgs T k i)) k)) := own_below (own_below HOW.out HWR.out) (bAlloc (Below.refl _ _) _)
          have HON1 := one_Rs wD 3 (.int .i64 (1000))
          have HSZ : Hid (B ≤ (wD.alloc (.cells #[.int .i64 (1000)] 3)).heap.size) := by have h1 := HWR.out.size; have h2 := HBL.out; show _ ≤ _; simp; omega
          have HBQ : Hid (Below w.heap.size w (wD.alloc (.cells #[.int .i64 (1000)] 3))) := bAlloc (bStep HBR.out HWR.out) _
          clear HOW HWR
          go_wp2_with (first
            | (at_builtin; refine wpList_appR _ rfl _ _ 28 rfl B 3 ii (.int .i64 0) 1 8 Tryd.underlying28 HII.out HZI.out.1 HZI.out.2.1 HZI.out.2.2 rfl (by decide) _ k _ rfl HOA.out 1 _ _ rfl HON1 (fun i _ j _ => rfl) ?c1 ?c2 HSZ.out ?_)
            | go_in)
          case c1 => unfold maxLen; omega
          case c2 => omega
          intro v' w7 hown7 hgrow7 hsep7
          have HNX : Hid (w7.ownsRow B 3 1 v' (k + 1) (rwl 1 (fun i _ => .int .i64 (dgs T (k + 1) i)) (k + 1))) := by
            rw [rwl_congr (G := fun i => if i < k then (fun _ => .int .i64 (dgs T k i)) else (fun _ => .int .i64 (1000))) (fun i hi j _ => by
              show Value.int .i64 (if i = k then dstep (T k) (dgs T k) else dgs T k i) = _
              by_cases h1 : i < k
              · rw [if_neg (by omega), if_pos h1]
              · rw [if_pos (by omega), if_neg h1, ← HD.out])]
            exact hown7
          have HB7 : Hid (Below w.heap.size w w7) := HBQ.out.grown hgrow7 (Nat.le_trans HBS.out HSZ.out) (fun j hj => Nat.le_trans HBS.out (own_ge HOA.out hj))
          clear hown7 hgrow7 hsep7 HON1 HBQ HOA HSZ HD
          go_wp2
          go_roundw
          case measure => simp [intOf]; omega
          case rel => exact ⟨k + 1, by go_num, hlt, HB7.out, HNX⟩
        have HD : Hid (x + y = dstep (T k) (dgs T k)) := by
          show x + y = _
          rw [HE.out]
          rw [show dstep (7, (a : Int), (b : Int), Z) (dgs T k) = min (dgs T k a + dgs T k b) 1000 from rfl, ← Hx.out, ← Hy.out]; omega
        have HOA : Hid ((wD.alloc (.cells #[.int .i64 (x + y)] 3)).ownsRow B 3 1 (.slice (some ⟨gb, go, none⟩) k cl) k (rwl 1 (fun i _ => .int .i64 (dgs T k i)) k)) := own_below (own_below HOW.out HWR.out) (bAlloc (Below.refl _ _) _)
        have HON1 := one_Rs wD 3 (.int .i64 (x + y))
        have HSZ : Hid (B ≤ (wD.alloc (.cells #[.int .i64 (x + y)] 3)).heap.size) := by have h1 := HWR.out.size; have h2 := HBL.out; show _ ≤ _; simp; omega
        have HBQ : Hid (Below w.heap.size w (wD.alloc (.cells #[.int .i64 (x + y)] 3))) := bAlloc (bStep HBR.out HWR.out) _
        clear HOW HWR
        go_wp2_with (first
          | (at_builtin; refine wpList_appR _ rfl _ _ 28 rfl B 3 ii (.int .i64 0) 1 8 Tryd.underlying28 HII.out HZI.out.1 HZI.out.2.1 HZI.out.2.2 rfl (by decide) _ k _ rfl HOA.out 1 _ _ rfl HON1 (fun i _ j _ => rfl) ?c1 ?c2 HSZ.out ?_)
          | go_in)
        case c1 => unfold maxLen; omega
        case c2 => omega
        intro v' w7 hown7 hgrow7 hsep7
        have HNX : Hid (w7.ownsRow B 3 1 v' (k + 1) (rwl 1 (fun i _ => .int .i64 (dgs T (k + 1) i)) (k + 1))) := by
          rw [rwl_congr (G := fun i => if i < k then (fun _ => .int .i64 (dgs T k i)) else (fun _ => .int .i64 (x + y))) (fun i hi j _ => by
            show Value.int .i64 (if i = k then dstep (T k) (dgs T k) else dgs T k i) = _
            by_cases h1 : i < k
            · rw [if_neg (by omega), if_pos h1]
            · rw [if_pos (by omega), if_neg h1, ← HD.out])]
          exact hown7
        have HB7 : Hid (Below w.heap.size w w7) := HBQ.out.grown hgrow7 (Nat.le_trans HBS.out HSZ.out) (fun j hj => Nat.le_trans HBS.out (own_ge HOA.out hj))
        clear hown7 hgrow7 hsep7 HON1 HBQ HOA HSZ HD
        go_wp2
        go_roundw
        case measure => simp [intOf]; omega
        case rel => exact ⟨k + 1, by go_num, hlt, HB7.out, HNX⟩
      · rcases own_Rs (own_below HOW.out HWR.out) with ⟨_, h0⟩ | ⟨gb, go, c2, hv2, _, _, _, hcell2⟩
        · have := (HAH.out 0 (by decide)); omega
        cases hv2
        have hoc : ∀ a, a < k → w3.cell? ⟨gb, go + a, none⟩ = some (.int .i64 (dgs T k a)) := fun a ha => by have h := hcell2 a ha 0 (by decide); rw [Nat.mul_one, Nat.add_zero] at h; exact h
        clear hcell2
        have hA0 : 0 ≤ X ∧ X < (k : Int) := HAH.out 0 (by decide)
        obtain ⟨a, ea⟩ : ∃ a : Nat, X = (a : Int) := ⟨(X).toNat, by omega⟩
        subst ea
        have hla : (a : Int) < (k : Int) := hA0.2
        have h0a : (0 : Int) ≤ (a : Int) := by omega
        have xc := hoc a (by omega)
        obtain ⟨x, ex⟩ : ∃ x, x = dgs T k a := ⟨_, rfl⟩
        rw [← ex] at xc
        have xr : 0 ≤ x ∧ x ≤ 1000 := by rw [ex]; exact HRG.out a
        have x0 := xr.1; have x1 := xr.2
        have Hx : Hid (x = dgs T k a) := ex
        clear xr ex hA0
        obtain ⟨d0, d1, d2, d3, d4, d5, d6⟩ := cells7 f3
        clear hoc
        have HD : Hid (x = dstep (T k) (dgs T k)) := by
          show x = _
          rw [HE.out]
          rw [Hx.out]; rfl
        have x2 : ¬ (1000 : Int) < x := by omega
        have HOA : Hid ((w3.alloc (.cells #[.int .i64 (x)] 3)).ownsRow B 3 1 (.slice (some ⟨gb, go, none⟩) k cl) k (rwl 1 (fun i _ => .int .i64 (dgs T k i)) k)) := own_below (own_below HOW.out HWR.out) (bAlloc (Below.refl _ _) _)
        have HON1 := one_Rs w3 3 (.int .i64 (x))
        have HSZ : Hid (B ≤ (w3.alloc (.cells #[.int .i64 (x)] 3)).heap.size) := by have h1 := HWR.out.size; have h2 := HBL.out; show _ ≤ _; simp; omega
        have HBQ : Hid (Below w.heap.size w (w3.alloc (.cells #[.int .i64 (x)] 3))) := bAlloc (bStep HBR.out HWR.out) _
        clear HOW HWR
        go_wp2_with (first
          | (at_builtin; refine wpList_appR _ rfl _ _ 28 rfl B 3 ii (.int .i64 0) 1 8 Tryd.underlying28 HII.out HZI.out.1 HZI.out.2.1 HZI.out.2.2 rfl (by decide) _ k _ rfl HOA.out 1 _ _ rfl HON1 (fun i _ j _ => rfl) ?c1 ?c2 HSZ.out ?_)
          | go_in)
        case c1 => unfold maxLen; omega
        case c2 => omega
        intro v' w7 hown7 hgrow7 hsep7
        have HNX : Hid (w7.ownsRow B 3 1 v' (k + 1) (rwl 1 (fun i _ => .int .i64 (dgs T (k + 1) i)) (k + 1))) := by
          rw [rwl_congr (G := fun i => if i < k then (fun _ => .int .i64 (dgs T k i)) else (fun _ => .int .i64 (x))) (fun i hi j _ => by
            show Value.int .i64 (if i = k then dstep (T k) (dgs T k) else dgs T k i) = _
            by_cases h1 : i < k
            · rw [if_neg (by omega), if_pos h1]
            · rw [if_pos (by omega), if_neg h1, ← HD.out])]
          exact hown7
        have HB7 : Hid (Below w.heap.size w w7) := HBQ.out.grown hgrow7 (Nat.le_trans HBS.out HSZ.out) (fun j hj => Nat.le_trans HBS.out (own_ge HOA.out hj))
        clear hown7 hgrow7 hsep7 HON1 HBQ HOA HSZ HD
        go_wp2
        go_roundw
        case measure => simp [intOf]; omega
        case rel => exact ⟨k + 1, by go_num, hlt, HB7.out, HNX⟩
    · have hki : ¬ (k : Int) < (n : Int) := by omega
      have ek : k = n := by omega
      have HOF : Hid (wr.ownsRow w.heap.size 3 1 (.slice ol k cl) n (rwl 1 (fun i _ => .int .i64 (dgs T n i)) n)) := by have h := own_base HOW.out HBS.out; rw [ek] at h ⊢; exact h
      have HBF : Hid (Below w.heap.size w wr) := hbr
      clear HOW hbr ek
      go_wp2
      go_ret
      exact ⟨⟨_, rfl, HOF.out⟩, HBF.out⟩
set_option maxHeartbeats 4000000 in
theorem rdeg_no (n cn : Nat) (oa : Option Addr) (T : Nat → Int × Int × Int × Nat) (hn : n ≤ 1000000) (w : World) (hv : Rs w (.slice oa n cn) 7 n (fun i => nC (T i))) (ho : ordB n T = false) :
    Calls Tryd.prog 14 #[.slice oa n cn] w fun e w' => (∃ v, e = .returned v ∧ w'.ownsRow w.heap.size 3 1 v 0 []) ∧ Below w.heap.size w w' := by
  obtain ⟨B, eB⟩ : ∃ x, x = w.heap.size := ⟨_, rfl⟩
  obtain ⟨w1, ew1⟩ : ∃ x : World, x = w.alloc (.cells #[] 3) := ⟨_, rfl⟩
  have HO1 : Hid (w1.ownsRow w.heap.size 3 1 (.slice (some ⟨B, 0, none⟩) 0 0) 0 []) := by rw [eB, ew1]; exact own_new w 3 1
  have hb1 : Below w.heap.size w w1 := by rw [ew1]; exact bAlloc (Below.refl _ _) _
  have HB1 : Hid (Below w.heap.size w w1) := hb1
  have HOC : Hid (Calls _ _ _ _ _) := rordered_any n cn oa T hn w1 (hv.below hb1)
  rw [ho] at HOC
  clear hv ho hb1
  go_enter Tryd.func14, Tryd.ntmps14
  go_upto_region 2 with fail
  rw [← ew1, ← eB]
  clear ew1 eB
  go_wp2_with fail
  refine Calls.mono HOC.out ?_
  rintro e w2 ⟨rfl, hb2⟩
  have HO2 : Hid (w2.ownsRow w.heap.size 3 1 (.slice (some ⟨B, 0, none⟩) 0 0) 0 []) := own_below HO1.out hb2
  have HB2 : Hid (Below w.heap.size w w2) := bStep HB1.out hb2
  clear HOC hb2 HO1 HB1
  go_wp2
  go_ret
  exact ⟨⟨_, rfl, HO2.out⟩, HB2.out⟩

end Go.Proofs.YtimjgebiffemnaaDoor
