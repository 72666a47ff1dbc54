import Derived.Test.YtgkfjpbgdhmhmaaGreatDoorVRA
set_option maxHeartbeats 16000000
namespace Go.Proofs.YtgkfjpbgdhmhmaaGreatDoor
open Go.RowKit
set_option maxRecDepth 100000 in
theorem rdeg_in (n cn : Nat) (oa : Option Addr) (T : Nat -> Int × Int × Int × Nat) (hn : n <= 1000000) (w : World) (hv : Rs w (.slice oa n cn) 7 n (fun i => nC (T i))) (ho : ordB n T = true) :
  Calls Tryz.prog 95 #[.slice oa n cn] w fun e w' => (∃ v, e = .returned v /\ w'.ownsRow w.heap.size 3 1 v n (rwl 1 (fun i _ => .int .i64 (dgs T n i)) n)) /\ Below w.heap.size w w' := by
 have HR : Hid (∀ w', Below w.heap.size w w' -> Rs w' (.slice oa n cn) 7 n (fun i => nC (T i))) := fun w' h => hv.below h
 have HOK : Hid (∀ i, i < n -> okN (T i) i = true) := (of_decide_eq_true ho : ∀ i, i < n -> okN (T i) i = true)
 obtain ⟨ii, hii, hi0, hi1, hi2⟩ := intInf
 have HII := (show Hid _ from hii); have HZI := (show Hid _ from And.intro hi0 (And.intro hi1 hi2)); clear hii hi0 hi1 hi2
 obtain ⟨B, eB⟩ := lv (w.heap.size)
 obtain ⟨w1, ew1⟩ := lv (w.alloc (.cells #[] 3))
 have HO1 : Hid (w1.ownsRow B 3 1 (.slice (some ⟨B, 0, none⟩) 0 0) 0 (rwl 1 (fun i _ => .int .i64 (dgs T 0 i)) 0)) := by rw [eB, ew1]; exact own_new w 3 1
 have hb1 : Below w.heap.size w w1 := by rw [ew1]; exact bAlloc (Below.refl _ _) _
 have HB1 : Hid (Below w.heap.size w w1) := hb1
 have HOC : Hid (Calls _ _ _ _ _) := rordered_any n cn oa T hn w1 (hv.below hb1)
 rw [ho] at HOC
 have HBS : Hid (w.heap.size <= B) := by rw [eB]; exact Nat.le_refl _
 have HBE : Hid (B = w.heap.size) := eB
 clear hv ho hb1
 go_enter Tryz.func95, Tryz.ntmps95
 go_upto_region 2 with fail
 rw [<- ew1, <- eB]
 clear ew1 eB
 go_wp2_with fail
 refine Calls.mono HOC.out ?_
 rintro e w2 ⟨rfl, hb2⟩
 have HO2 : Hid (w2.ownsRow B 3 1 (.slice (some ⟨B, 0, none⟩) 0 0) 0 (rwl 1 (fun i _ => .int .i64 (dgs T 0 i)) 0)) := own_below HO1.out hb2
 have HB2 : Hid (Below w.heap.size w w2) := bStep HB1.out hb2
 clear HOC hb2 HO1 HB1
 go_wp2
 go_loopw [4, 3] (fun iv lv wr => ∃ k : Nat, iv = .int .i64 (k : Int) /\ k <= n /\ Below w.heap.size w wr /\ Hid (wr.ownsRow B 3 1 lv k (rwl 1 (fun i _ => .int .i64 (dgs T k i)) k))) (fun iv _ _ => n - (intOf iv).toNat)
 case atStart => exact ⟨0, rfl, Nat.zero_le _, HB2.out, HO2⟩
 case round =>
  obtain ⟨k, rfl, hk, hbr, HOW⟩ := hrel
  obtain ⟨ol, cl, hsh, _⟩ := own_shape HOW.out
  subst hsh
  clear HO2 HB2
  by_cases hlt : k < n
  ·have hki : (k : Int) < (n : Int) := by omega
   have hk0 : (0 : Int) <= (k : Int) := by omega
   rcases HR.out wr hbr with ⟨_, h0⟩ | ⟨ab, ao, c', hv, _, _, lab, hcell⟩
   ·omega
   cases hv
   obtain ⟨O, X, Y, Z, hE⟩ : ∃ O A B V, T k = (O, A, B, V) := ⟨_, _, _, _, rfl⟩
   have ca : ∀ j, j < 7 -> wr.cell? ⟨ab, ao + k * 7 + j, none⟩ = some (nC (T k) j) := fun j hj => hcell k hlt j hj
   rw [hE] at ca
   have hok := HOK.out k hlt
   unfold okN at hok
   rw [hE, Bool.and_eq_true] at hok
   have hO : 1 <= O /\ O <= 8 := of_decide_eq_true hok.1
   have hAh : ∀ j, j < uN O -> 0 <= uF X Y j /\ uF X Y j < (k : Int) := of_decide_eq_true hok.2
   have HAH : Hid (∀ j, j < uN O -> 0 <= uF X Y j /\ uF X Y j < (k : Int)) := hAh
   have HE : Hid (T k = (O, X, Y, Z)) := hE
   have HRG : Hid (∀ i, 0 <= dgs T k i /\ dgs T k i <= 1000) := fun i => dgs_range T k (fun i hi => HOK.out i (by omega)) i
   obtain ⟨t0, t1, t2, t3, t4, t5, t6⟩ := nC_cells O X Y Z
   have a0 := ca 0 (by decide); have a1 := ca 1 (by decide); have a2 := ca 2 (by decide); have a3 := ca 3 (by decide); have a4 := ca 4 (by decide); have a5 := ca 5 (by decide); have a6 := ca 6 (by decide)
   rw [t0] at a0; rw [t1] at a1; rw [t2] at a2; rw [t3] at a3; rw [t4] at a4; rw [t5] at a5; rw [t6] at a6
   rw [Nat.add_zero] at a0
   have HBL : Hid (B <= wr.heap.size) := by rw [HBE.out]; exact hbr.size
   have HBR : Hid (Below w.heap.size w wr) := hbr
   clear ca t0 t1 t2 t3 t4 t5 t6 hE lab hcell hok hAh hbr
   obtain ⟨w3, ew3⟩ := lv (wr.alloc (.cells #[.int .i64 O, .int .i64 X, .int .i64 Y, .int .u64 (limb 0 Z), .int .u64 (limb 1 Z), .int .u64 (limb 2 Z), .int .u64 (limb 3 Z)] 64))
   have HWR : Hid (Below wr.heap.size wr w3) := by rw [ew3]; exact bAlloc (Below.refl _ _) _
   obtain ⟨b5, eb5⟩ := lv (wr.heap.size)
   have f3 : w3.heap[b5]? = some (.cells #[.int .i64 O, .int .i64 X, .int .i64 Y, .int .u64 (limb 0 Z), .int .u64 (limb 1 Z), .int .u64 (limb 2 Z), .int .u64 (limb 3 Z)] 64) := by rw [ew3, eb5]; show (wr.heap.push _)[wr.heap.size]? = _; simp
   go_upto_region 8 with fail
   rw [<- ew3, <- eb5]
   clear ew3 eb5 a0 a1 a2 a3 a4 a5 a6
   have hc : O = 1 \/ O = 2 \/ O = 3 \/ O = 4 \/ O = 5 \/ O = 6 \/ O = 7 \/ O = 8 := by omega
   clear hO
   rcases hc with rfl | rfl | rfl | rfl | rfl | rfl | rfl | rfl
   ·obtain ⟨d0, d1, d2, d3, d4, d5, d6⟩ := cells7 f3
    have HD : Hid ((0 : Int) = dstep (T k) (dgs T k)) := by
     show (0 : Int) = _
     rw [HE.out]
     rfl
    have HOA : Hid ((w3.alloc (.cells #[.int .i64 (0)] 3)).ownsRow B 3 1 (.slice ol k cl) k (rwl 1 (fun i _ => .int .i64 (dgs T k i)) k)) := own_below (own_below HOW.out HWR.out) (bAlloc (Below.refl _ _) _)
    have HON1 := one_Rs w3 3 (.int .i64 (0))
    have HSZ : Hid (B <= (w3.alloc (.cells #[.int .i64 (0)] 3)).heap.size) := by have h1 := HWR.out.size; have h2 := HBL.out; show _ <= _; simp; omega
    have HBQ : Hid (Below w.heap.size w (w3.alloc (.cells #[.int .i64 (0)] 3))) := bAlloc (bStep HBR.out HWR.out) _
    clear HOW HWR
    go_wp2_with (first
     | (at_builtin; refine wpList_appR _ rfl _ _ 23 rfl B 3 ii (.int .i64 0) 1 8 Tryz.underlying23 HII.out HZI.out.1 HZI.out.2.1 HZI.out.2.2 rfl (by decide) _ k _ rfl HOA.out 1 _ _ rfl HON1 (fun i _ j _ => rfl) ?c1 ?c2 HSZ.out ?_)
     | go_in)
    case c1 => unfold maxLen; omega
    case c2 => omega
    intro v' w7 hown7 hgrow7 hsep7
    have HNX : Hid (w7.ownsRow B 3 1 v' (k + 1) (rwl 1 (fun i _ => .int .i64 (dgs T (k + 1) i)) (k + 1))) := by
     rw [rwl_congr (G := fun i => if i < k then (fun _ => .int .i64 (dgs T k i)) else (fun _ => .int .i64 (0))) (fun i hi j _ => by
      show Value.int .i64 (if i = k then dstep (T k) (dgs T k) else dgs T k i) = _
      by_cases h1 : i < k
      ·rw [if_neg (by omega), if_pos h1]
      ·rw [if_pos (by omega), if_neg h1, <- HD.out])]
     exact hown7
    have HB7 : Hid (Below w.heap.size w w7) := HBQ.out.grown hgrow7 (Nat.le_trans HBS.out HSZ.out) (fun j hj => Nat.le_trans HBS.out (own_ge HOA.out hj))
    clear hown7 hgrow7 hsep7 HON1 HBQ HOA HSZ HD
    go_wp2
    go_roundw
    case measure => simp [intOf]; omega
    case rel => exact ⟨k + 1, by go_num, hlt, HB7.out, HNX⟩
   ·obtain ⟨d0, d1, d2, d3, d4, d5, d6⟩ := cells7 f3
    have HD : Hid ((1 : Int) = dstep (T k) (dgs T k)) := by
     show (1 : Int) = _
     rw [HE.out]
     rfl
    have HOA : Hid ((w3.alloc (.cells #[.int .i64 (1)] 3)).ownsRow B 3 1 (.slice ol k cl) k (rwl 1 (fun i _ => .int .i64 (dgs T k i)) k)) := own_below (own_below HOW.out HWR.out) (bAlloc (Below.refl _ _) _)
    have HON1 := one_Rs w3 3 (.int .i64 (1))
    have HSZ : Hid (B <= (w3.alloc (.cells #[.int .i64 (1)] 3)).heap.size) := by have h1 := HWR.out.size; have h2 := HBL.out; show _ <= _; simp; omega
    have HBQ : Hid (Below w.heap.size w (w3.alloc (.cells #[.int .i64 (1)] 3))) := bAlloc (bStep HBR.out HWR.out) _
    clear HOW HWR
    go_wp2_with (first
     | (at_builtin; refine wpList_appR _ rfl _ _ 23 rfl B 3 ii (.int .i64 0) 1 8 Tryz.underlying23 HII.out HZI.out.1 HZI.out.2.1 HZI.out.2.2 rfl (by decide) _ k _ rfl HOA.out 1 _ _ rfl HON1 (fun i _ j _ => rfl) ?c1 ?c2 HSZ.out ?_)
     | go_in)
    case c1 => unfold maxLen; omega
    case c2 => omega
    intro v' w7 hown7 hgrow7 hsep7
    have HNX : Hid (w7.ownsRow B 3 1 v' (k + 1) (rwl 1 (fun i _ => .int .i64 (dgs T (k + 1) i)) (k + 1))) := by
     rw [rwl_congr (G := fun i => if i < k then (fun _ => .int .i64 (dgs T k i)) else (fun _ => .int .i64 (1))) (fun i hi j _ => by
      show Value.int .i64 (if i = k then dstep (T k) (dgs T k) else dgs T k i) = _
      by_cases h1 : i < k
      ·rw [if_neg (by omega), if_pos h1]
      ·rw [if_pos (by omega), if_neg h1, <- HD.out])]
     exact hown7
    have HB7 : Hid (Below w.heap.size w w7) := HBQ.out.grown hgrow7 (Nat.le_trans HBS.out HSZ.out) (fun j hj => Nat.le_trans HBS.out (own_ge HOA.out hj))
    clear hown7 hgrow7 hsep7 HON1 HBQ HOA HSZ HD
    go_wp2
    go_roundw
    case measure => simp [intOf]; omega
    case rel => exact ⟨k + 1, by go_num, hlt, HB7.out, HNX⟩
   ·obtain ⟨d0, d1, d2, d3, d4, d5, d6⟩ := cells7 f3
    have HD : Hid ((1 : Int) = dstep (T k) (dgs T k)) := by
     show (1 : Int) = _
     rw [HE.out]
     rfl
    have HOA : Hid ((w3.alloc (.cells #[.int .i64 (1)] 3)).ownsRow B 3 1 (.slice ol k cl) k (rwl 1 (fun i _ => .int .i64 (dgs T k i)) k)) := own_below (own_below HOW.out HWR.out) (bAlloc (Below.refl _ _) _)
    have HON1 := one_Rs w3 3 (.int .i64 (1))
    have HSZ : Hid (B <= (w3.alloc (.cells #[.int .i64 (1)] 3)).heap.size) := by have h1 := HWR.out.size; have h2 := HBL.out; show _ <= _; simp; omega
    have HBQ : Hid (Below w.heap.size w (w3.alloc (.cells #[.int .i64 (1)] 3))) := bAlloc (bStep HBR.out HWR.out) _
    clear HOW HWR
    go_wp2_with (first
     | (at_builtin; refine wpList_appR _ rfl _ _ 23 rfl B 3 ii (.int .i64 0) 1 8 Tryz.underlying23 HII.out HZI.out.1 HZI.out.2.1 HZI.out.2.2 rfl (by decide) _ k _ rfl HOA.out 1 _ _ rfl HON1 (fun i _ j _ => rfl) ?c1 ?c2 HSZ.out ?_)
     | go_in)
    case c1 => unfold maxLen; omega
    case c2 => omega
    intro v' w7 hown7 hgrow7 hsep7
    have HNX : Hid (w7.ownsRow B 3 1 v' (k + 1) (rwl 1 (fun i _ => .int .i64 (dgs T (k + 1) i)) (k + 1))) := by
     rw [rwl_congr (G := fun i => if i < k then (fun _ => .int .i64 (dgs T k i)) else (fun _ => .int .i64 (1))) (fun i hi j _ => by
      show Value.int .i64 (if i = k then dstep (T k) (dgs T k) else dgs T k i) = _
      by_cases h1 : i < k
      ·rw [if_neg (by omega), if_pos h1]
      ·rw [if_pos (by omega), if_neg h1, <- HD.out])]
     exact hown7
    have HB7 : Hid (Below w.heap.size w w7) := HBQ.out.grown hgrow7 (Nat.le_trans HBS.out HSZ.out) (fun j hj => Nat.le_trans HBS.out (own_ge HOA.out hj))
    clear hown7 hgrow7 hsep7 HON1 HBQ HOA HSZ HD
    go_wp2
    go_roundw
    case measure => simp [intOf]; omega
    case rel => exact ⟨k + 1, by go_num, hlt, HB7.out, HNX⟩
   ·obtain ⟨d0, d1, d2, d3, d4, d5, d6⟩ := cells7 f3
    have HD : Hid ((1 : Int) = dstep (T k) (dgs T k)) := by
     show (1 : Int) = _
     rw [HE.out]
     rfl
    have HOA : Hid ((w3.alloc (.cells #[.int .i64 (1)] 3)).ownsRow B 3 1 (.slice ol k cl) k (rwl 1 (fun i _ => .int .i64 (dgs T k i)) k)) := own_below (own_below HOW.out HWR.out) (bAlloc (Below.refl _ _) _)
    have HON1 := one_Rs w3 3 (.int .i64 (1))
    have HSZ : Hid (B <= (w3.alloc (.cells #[.int .i64 (1)] 3)).heap.size) := by have h1 := HWR.out.size; have h2 := HBL.out; show _ <= _; simp; omega
    have HBQ : Hid (Below w.heap.size w (w3.alloc (.cells #[.int .i64 (1)] 3))) := bAlloc (bStep HBR.out HWR.out) _
    clear HOW HWR
    go_wp2_with (first
     | (at_builtin; refine wpList_appR _ rfl _ _ 23 rfl B 3 ii (.int .i64 0) 1 8 Tryz.underlying23 HII.out HZI.out.1 HZI.out.2.1 HZI.out.2.2 rfl (by decide) _ k _ rfl HOA.out 1 _ _ rfl HON1 (fun i _ j _ => rfl) ?c1 ?c2 HSZ.out ?_)
     | go_in)
    case c1 => unfold maxLen; omega
    case c2 => omega
    intro v' w7 hown7 hgrow7 hsep7
    have HNX : Hid (w7.ownsRow B 3 1 v' (k + 1) (rwl 1 (fun i _ => .int .i64 (dgs T (k + 1) i)) (k + 1))) := by
     rw [rwl_congr (G := fun i => if i < k then (fun _ => .int .i64 (dgs T k i)) else (fun _ => .int .i64 (1))) (fun i hi j _ => by
      show Value.int .i64 (if i = k then dstep (T k) (dgs T k) else dgs T k i) = _
      by_cases h1 : i < k
      ·rw [if_neg (by omega), if_pos h1]
      ·rw [if_pos (by omega), if_neg h1, <- HD.out])]
     exact hown7
    have HB7 : Hid (Below w.heap.size w w7) := HBQ.out.grown hgrow7 (Nat.le_trans HBS.out HSZ.out) (fun j hj => Nat.le_trans HBS.out (own_ge HOA.out hj))
    clear hown7 hgrow7 hsep7 HON1 HBQ HOA HSZ HD
    go_wp2
    go_roundw
    case measure => simp [intOf]; omega
    case rel => exact ⟨k + 1, by go_num, hlt, HB7.out, HNX⟩
   ·rcases own_Rs (own_below HOW.out HWR.out) with ⟨_, h0⟩ | ⟨gb, go, c2, hv2, _, _, _, hcell2⟩
    ·have := (HAH.out 0 (by decide)); omega
    cases hv2
    have hoc : ∀ a, a < k -> w3.cell? ⟨gb, go + a, none⟩ = some (.int .i64 (dgs T k a)) := fun a ha => by have h := hcell2 a ha 0 (by decide); rw [Nat.mul_one, Nat.add_zero] at h; exact h
    clear hcell2
    have hA0 : 0 <= X /\ X < (k : Int) := HAH.out 0 (by decide)
    obtain ⟨a, ea⟩ : ∃ a : Nat, X = (a : Int) := ⟨(X).toNat, by omega⟩
    subst ea
    have hla : (a : Int) < (k : Int) := hA0.2
    have h0a : (0 : Int) <= (a : Int) := by omega
    have xc := hoc a (by omega)
    obtain ⟨x, ex⟩ := lv (dgs T k a)
    rw [<- ex] at xc
    have xr : 0 <= x /\ x <= 1000 := by rw [ex]; exact HRG.out a
    have x0 := xr.1; have x1 := xr.2
    have Hx : Hid (x = dgs T k a) := ex
    clear xr ex hA0
    obtain ⟨d0, d1, d2, d3, d4, d5, d6⟩ := cells7 f3
    clear hoc
    have HD : Hid (x = dstep (T k) (dgs T k)) := by
     show x = _
     rw [HE.out]
     rw [Hx.out]; rfl
    have x2 : ¬ (1000 : Int) < x := by omega
    have HOA : Hid ((w3.alloc (.cells #[.int .i64 (x)] 3)).ownsRow B 3 1 (.slice (some ⟨gb, go, none⟩) k cl) k (rwl 1 (fun i _ => .int .i64 (dgs T k i)) k)) := own_below (own_below HOW.out HWR.out) (bAlloc (Below.refl _ _) _)
    have HON1 := one_Rs w3 3 (.int .i64 (x))
    have HSZ : Hid (B <= (w3.alloc (.cells #[.int .i64 (x)] 3)).heap.size) := by have h1 := HWR.out.size; have h2 := HBL.out; show _ <= _; simp; omega
    have HBQ : Hid (Below w.heap.size w (w3.alloc (.cells #[.int .i64 (x)] 3))) := bAlloc (bStep HBR.out HWR.out) _
    clear HOW HWR
    go_wp2_with (first
     | (at_builtin; refine wpList_appR _ rfl _ _ 23 rfl B 3 ii (.int .i64 0) 1 8 Tryz.underlying23 HII.out HZI.out.1 HZI.out.2.1 HZI.out.2.2 rfl (by decide) _ k _ rfl HOA.out 1 _ _ rfl HON1 (fun i _ j _ => rfl) ?c1 ?c2 HSZ.out ?_)
     | go_in)
    case c1 => unfold maxLen; omega
    case c2 => omega
    intro v' w7 hown7 hgrow7 hsep7
    have HNX : Hid (w7.ownsRow B 3 1 v' (k + 1) (rwl 1 (fun i _ => .int .i64 (dgs T (k + 1) i)) (k + 1))) := by
     rw [rwl_congr (G := fun i => if i < k then (fun _ => .int .i64 (dgs T k i)) else (fun _ => .int .i64 (x))) (fun i hi j _ => by
      show Value.int .i64 (if i = k then dstep (T k) (dgs T k) else dgs T k i) = _
      by_cases h1 : i < k
      ·rw [if_neg (by omega), if_pos h1]
      ·rw [if_pos (by omega), if_neg h1, <- HD.out])]
     exact hown7
    have HB7 : Hid (Below w.heap.size w w7) := HBQ.out.grown hgrow7 (Nat.le_trans HBS.out HSZ.out) (fun j hj => Nat.le_trans HBS.out (own_ge HOA.out hj))
    clear hown7 hgrow7 hsep7 HON1 HBQ HOA HSZ HD
    go_wp2
    go_roundw
    case measure => simp [intOf]; omega
    case rel => exact ⟨k + 1, by go_num, hlt, HB7.out, HNX⟩
   ·rcases own_Rs (own_below HOW.out HWR.out) with ⟨_, h0⟩ | ⟨gb, go, c2, hv2, _, _, _, hcell2⟩
    ·have := (HAH.out 0 (by decide)); omega
    cases hv2
    have hoc : ∀ a, a < k -> w3.cell? ⟨gb, go + a, none⟩ = some (.int .i64 (dgs T k a)) := fun a ha => by have h := hcell2 a ha 0 (by decide); rw [Nat.mul_one, Nat.add_zero] at h; exact h
    clear hcell2
    have hA0 : 0 <= X /\ X < (k : Int) := HAH.out 0 (by decide)
    obtain ⟨a, ea⟩ : ∃ a : Nat, X = (a : Int) := ⟨(X).toNat, by omega⟩
    subst ea
    have hla : (a : Int) < (k : Int) := hA0.2
    have h0a : (0 : Int) <= (a : Int) := by omega
    have xc := hoc a (by omega)
    obtain ⟨x, ex⟩ := lv (dgs T k a)
    rw [<- ex] at xc
    have xr : 0 <= x /\ x <= 1000 := by rw [ex]; exact HRG.out a
    have x0 := xr.1; have x1 := xr.2
    have Hx : Hid (x = dgs T k a) := ex
    clear xr ex hA0
    have hA1 : 0 <= Y /\ Y < (k : Int) := HAH.out 1 (by decide)
    obtain ⟨b, eb⟩ : ∃ b : Nat, Y = (b : Int) := ⟨(Y).toNat, by omega⟩
    subst eb
    have hlb : (b : Int) < (k : Int) := hA1.2
    have h0b : (0 : Int) <= (b : Int) := by omega
    have yc := hoc b (by omega)
    obtain ⟨y, ey⟩ := lv (dgs T k b)
    rw [<- ey] at yc
    have yr : 0 <= y /\ y <= 1000 := by rw [ey]; exact HRG.out b
    have y0 := yr.1; have y1 := yr.2
    have Hy : Hid (y = dgs T k b) := ey
    clear yr ey hA1
    obtain ⟨d0, d1, d2, d3, d4, d5, d6⟩ := cells7 f3
    clear hoc
    have x2 : ¬ (1000 : Int) < x := by omega
    have y2 : ¬ (1000 : Int) < y := by omega
    by_cases hxy : x < y
    ·have HD : Hid (y = dstep (T k) (dgs T k)) := by
      show y = _
      rw [HE.out]
      rw [show dstep (6, (a : Int), (b : Int), Z) (dgs T k) = max (dgs T k a) (dgs T k b) from rfl, <- Hx.out, <- Hy.out]; omega
     have HOA : Hid ((w3.alloc (.cells #[.int .i64 (y)] 3)).ownsRow B 3 1 (.slice (some ⟨gb, go, none⟩) k cl) k (rwl 1 (fun i _ => .int .i64 (dgs T k i)) k)) := own_below (own_below HOW.out HWR.out) (bAlloc (Below.refl _ _) _)
     have HON1 := one_Rs w3 3 (.int .i64 (y))
     have HSZ : Hid (B <= (w3.alloc (.cells #[.int .i64 (y)] 3)).heap.size) := by have h1 := HWR.out.size; have h2 := HBL.out; show _ <= _; simp; omega
     have HBQ : Hid (Below w.heap.size w (w3.alloc (.cells #[.int .i64 (y)] 3))) := bAlloc (bStep HBR.out HWR.out) _
     clear HOW HWR
     go_wp2_with (first
      | (at_builtin; refine wpList_appR _ rfl _ _ 23 rfl B 3 ii (.int .i64 0) 1 8 Tryz.underlying23 HII.out HZI.out.1 HZI.out.2.1 HZI.out.2.2 rfl (by decide) _ k _ rfl HOA.out 1 _ _ rfl HON1 (fun i _ j _ => rfl) ?c1 ?c2 HSZ.out ?_)
      | go_in)
     case c1 => unfold maxLen; omega
     case c2 => omega
     intro v' w7 hown7 hgrow7 hsep7
     have HNX : Hid (w7.ownsRow B 3 1 v' (k + 1) (rwl 1 (fun i _ => .int .i64 (dgs T (k + 1) i)) (k + 1))) := by
      rw [rwl_congr (G := fun i => if i < k then (fun _ => .int .i64 (dgs T k i)) else (fun _ => .int .i64 (y))) (fun i hi j _ => by
       show Value.int .i64 (if i = k then dstep (T k) (dgs T k) else dgs T k i) = _
       by_cases h1 : i < k
       ·rw [if_neg (by omega), if_pos h1]
       ·rw [if_pos (by omega), if_neg h1, <- HD.out])]
      exact hown7
     have HB7 : Hid (Below w.heap.size w w7) := HBQ.out.grown hgrow7 (Nat.le_trans HBS.out HSZ.out) (fun j hj => Nat.le_trans HBS.out (own_ge HOA.out hj))
     clear hown7 hgrow7 hsep7 HON1 HBQ HOA HSZ HD
     go_wp2
     go_roundw
     case measure => simp [intOf]; omega
     case rel => exact ⟨k + 1, by go_num, hlt, HB7.out, HNX⟩
    have HD : Hid (x = dstep (T k) (dgs T k)) := by
     show x = _
     rw [HE.out]
     rw [show dstep (6, (a : Int), (b : Int), Z) (dgs T k) = max (dgs T k a) (dgs T k b) from rfl, <- Hx.out, <- Hy.out]; omega
    have HOA : Hid ((w3.alloc (.cells #[.int .i64 (x)] 3)).ownsRow B 3 1 (.slice (some ⟨gb, go, none⟩) k cl) k (rwl 1 (fun i _ => .int .i64 (dgs T k i)) k)) := own_below (own_below HOW.out HWR.out) (bAlloc (Below.refl _ _) _)
    have HON1 := one_Rs w3 3 (.int .i64 (x))
    have HSZ : Hid (B <= (w3.alloc (.cells #[.int .i64 (x)] 3)).heap.size) := by have h1 := HWR.out.size; have h2 := HBL.out; show _ <= _; simp; omega
    have HBQ : Hid (Below w.heap.size w (w3.alloc (.cells #[.int .i64 (x)] 3))) := bAlloc (bStep HBR.out HWR.out) _
    clear HOW HWR
    go_wp2_with (first
     | (at_builtin; refine wpList_appR _ rfl _ _ 23 rfl B 3 ii (.int .i64 0) 1 8 Tryz.underlying23 HII.out HZI.out.1 HZI.out.2.1 HZI.out.2.2 rfl (by decide) _ k _ rfl HOA.out 1 _ _ rfl HON1 (fun i _ j _ => rfl) ?c1 ?c2 HSZ.out ?_)
     | go_in)
    case c1 => unfold maxLen; omega
    case c2 => omega
    intro v' w7 hown7 hgrow7 hsep7
    have HNX : Hid (w7.ownsRow B 3 1 v' (k + 1) (rwl 1 (fun i _ => .int .i64 (dgs T (k + 1) i)) (k + 1))) := by
     rw [rwl_congr (G := fun i => if i < k then (fun _ => .int .i64 (dgs T k i)) else (fun _ => .int .i64 (x))) (fun i hi j _ => by
      show Value.int .i64 (if i = k then dstep (T k) (dgs T k) else dgs T k i) = _
      by_cases h1 : i < k
      ·rw [if_neg (by omega), if_pos h1]
      ·rw [if_pos (by omega), if_neg h1, <- HD.out])]
     exact hown7
    have HB7 : Hid (Below w.heap.size w w7) := HBQ.out.grown hgrow7 (Nat.le_trans HBS.out HSZ.out) (fun j hj => Nat.le_trans HBS.out (own_ge HOA.out hj))
    clear hown7 hgrow7 hsep7 HON1 HBQ HOA HSZ HD
    go_wp2
    go_roundw
    case measure => simp [intOf]; omega
    case rel => exact ⟨k + 1, by go_num, hlt, HB7.out, HNX⟩
   ·rcases own_Rs (own_below HOW.out HWR.out) with ⟨_, h0⟩ | ⟨gb, go, c2, hv2, _, _, _, hcell2⟩
    ·have := (HAH.out 0 (by decide)); omega
    cases hv2
    have hoc : ∀ a, a < k -> w3.cell? ⟨gb, go + a, none⟩ = some (.int .i64 (dgs T k a)) := fun a ha => by have h := hcell2 a ha 0 (by decide); rw [Nat.mul_one, Nat.add_zero] at h; exact h
    clear hcell2
    have hA0 : 0 <= X /\ X < (k : Int) := HAH.out 0 (by decide)
    obtain ⟨a, ea⟩ : ∃ a : Nat, X = (a : Int) := ⟨(X).toNat, by omega⟩
    subst ea
    have hla : (a : Int) < (k : Int) := hA0.2
    have h0a : (0 : Int) <= (a : Int) := by omega
    have xc := hoc a (by omega)
    obtain ⟨x, ex⟩ := lv (dgs T k a)
    rw [<- ex] at xc
    have xr : 0 <= x /\ x <= 1000 := by rw [ex]; exact HRG.out a
    have x0 := xr.1; have x1 := xr.2
    have Hx : Hid (x = dgs T k a) := ex
    clear xr ex hA0
    have hA1 : 0 <= Y /\ Y < (k : Int) := HAH.out 1 (by decide)
    obtain ⟨b, eb⟩ : ∃ b : Nat, Y = (b : Int) := ⟨(Y).toNat, by omega⟩
    subst eb
    have hlb : (b : Int) < (k : Int) := hA1.2
    have h0b : (0 : Int) <= (b : Int) := by omega
    have yc := hoc b (by omega)
    obtain ⟨y, ey⟩ := lv (dgs T k b)
    rw [<- ey] at yc
    have yr : 0 <= y /\ y <= 1000 := by rw [ey]; exact HRG.out b
    have y0 := yr.1; have y1 := yr.2
    have Hy : Hid (y = dgs T k b) := ey
    clear yr ey hA1
    obtain ⟨d0, d1, d2, d3, d4, d5, d6⟩ := cells7 f3
    clear hoc
    go_upto_region 22 with fail
    refine wp_region_Z (fun w' => w'.heap[b5]? = some (.cells #[.int .i64 7, .int .i64 (a : Int), .int .i64 (b : Int), .int .u64 (limb 0 Z), .int .u64 (limb 1 Z), .int .u64 (limb 2 Z), .int .u64 (limb 3 Z)] 64) /\ w'.cell? ⟨gb, go + a, none⟩ = some (.int .i64 x) /\ w'.cell? ⟨gb, go + b, none⟩ = some (.int .i64 y)) 12 (by kernel_rfl) ?_
    obtain ⟨wD, hD⟩ := lv (w3.drew)
    rw [<- hD]
    have hp : wD.heap[b5]? = some (.cells #[.int .i64 7, .int .i64 (a : Int), .int .i64 (b : Int), .int .u64 (limb 0 Z), .int .u64 (limb 1 Z), .int .u64 (limb 2 Z), .int .u64 (limb 3 Z)] 64) /\ wD.cell? ⟨gb, go + a, none⟩ = some (.int .i64 x) /\ wD.cell? ⟨gb, go + b, none⟩ = some (.int .i64 y) := by rw [hD]; exact ⟨f3, xc, yc⟩
    have HWD : Hid (Below wr.heap.size wr wD) := by rw [hD]; exact bStep HWR.out (Below.refl _ _).drew
    clear hD f3 xc yc d0 d1 d2 d3 d4 d5 d6 HWR
    have hxw : IntKind.i64.wrap (x + y) = x + y := by simp [IntKind.wrap, IntKind.bits, IntKind.signed]; omega
    refine zs 0 57 (.slice (some ⟨gb, go, none⟩) k cl) hp ?_
    refine zs 1 58 (.pointer (some ⟨b5, 1, none⟩)) hp ?_
    refine zT 2 59 (.int .i64 (a : Int)) rfl rfl (fun w hSw => by obtain ⟨d0, d1, d2, d3, d4, d5, d6⟩ := cells7 hSw.1; have xc := hSw.2.1; have yc := hSw.2.2; go_simp) hp ?_
    refine zs 3 60 (.pointer (some ⟨gb, go + a, none⟩)) hp ?_
    refine zT 4 61 (.int .i64 x) rfl rfl (fun w hSw => by obtain ⟨d0, d1, d2, d3, d4, d5, d6⟩ := cells7 hSw.1; have xc := hSw.2.1; have yc := hSw.2.2; go_simp) hp ?_
    refine zs 5 62 (.slice (some ⟨gb, go, none⟩) k cl) hp ?_
    refine zs 6 63 (.pointer (some ⟨b5, 2, none⟩)) hp ?_
    refine zT 7 64 (.int .i64 (b : Int)) rfl rfl (fun w hSw => by obtain ⟨d0, d1, d2, d3, d4, d5, d6⟩ := cells7 hSw.1; have xc := hSw.2.1; have yc := hSw.2.2; go_simp) hp ?_
    refine zs 8 65 (.pointer (some ⟨gb, go + b, none⟩)) hp ?_
    refine zT 9 66 (.int .i64 y) rfl rfl (fun w hSw => by obtain ⟨d0, d1, d2, d3, d4, d5, d6⟩ := cells7 hSw.1; have xc := hSw.2.1; have yc := hSw.2.2; go_simp) hp ?_
    refine zs 10 67 (.int .i64 (x + y)) hp ?_
    refine zs 11 6 (.int .i64 (x + y)) hp ?_
    refine zd ?_ _
    clear hp
    have HWR : Hid (Below wr.heap.size wr wD) := HWD
    clear HWD
    by_cases hxy : 1000 < x + y
    ·have HD : Hid ((1000 : Int) = dstep (T k) (dgs T k)) := by
      show (1000 : Int) = _
      rw [HE.out]
      rw [show dstep (7, (a : Int), (b : Int), Z) (dgs T k) = min (dgs T k a + dgs T k b) 1000 from rfl, <- Hx.out, <- Hy.out]; omega
     have HOA : Hid ((wD.alloc (.cells #[.int .i64 (1000)] 3)).ownsRow B 3 1 (.slice (some ⟨gb, go, none⟩) k cl) k (rwl 1 (fun i _ => .int .i64 (dgs T k i)) k)) := own_below (own_below HOW.out HWR.out) (bAlloc (Below.refl _ _) _)
     have HON1 := one_Rs wD 3 (.int .i64 (1000))
     have HSZ : Hid (B <= (wD.alloc (.cells #[.int .i64 (1000)] 3)).heap.size) := by have h1 := HWR.out.size; have h2 := HBL.out; show _ <= _; simp; omega
     have HBQ : Hid (Below w.heap.size w (wD.alloc (.cells #[.int .i64 (1000)] 3))) := bAlloc (bStep HBR.out HWR.out) _
     clear HOW HWR
     go_wp2_with (first
      | (at_builtin; refine wpList_appR _ rfl _ _ 23 rfl B 3 ii (.int .i64 0) 1 8 Tryz.underlying23 HII.out HZI.out.1 HZI.out.2.1 HZI.out.2.2 rfl (by decide) _ k _ rfl HOA.out 1 _ _ rfl HON1 (fun i _ j _ => rfl) ?c1 ?c2 HSZ.out ?_)
      | go_in)
     case c1 => unfold maxLen; omega
     case c2 => omega
     intro v' w7 hown7 hgrow7 hsep7
     have HNX : Hid (w7.ownsRow B 3 1 v' (k + 1) (rwl 1 (fun i _ => .int .i64 (dgs T (k + 1) i)) (k + 1))) := by
      rw [rwl_congr (G := fun i => if i < k then (fun _ => .int .i64 (dgs T k i)) else (fun _ => .int .i64 (1000))) (fun i hi j _ => by
       show Value.int .i64 (if i = k then dstep (T k) (dgs T k) else dgs T k i) = _
       by_cases h1 : i < k
       ·rw [if_neg (by omega), if_pos h1]
       ·rw [if_pos (by omega), if_neg h1, <- HD.out])]
      exact hown7
     have HB7 : Hid (Below w.heap.size w w7) := HBQ.out.grown hgrow7 (Nat.le_trans HBS.out HSZ.out) (fun j hj => Nat.le_trans HBS.out (own_ge HOA.out hj))
     clear hown7 hgrow7 hsep7 HON1 HBQ HOA HSZ HD
     go_wp2
     go_roundw
     case measure => simp [intOf]; omega
     case rel => exact ⟨k + 1, by go_num, hlt, HB7.out, HNX⟩
    have HD : Hid (x + y = dstep (T k) (dgs T k)) := by
     show x + y = _
     rw [HE.out]
     rw [show dstep (7, (a : Int), (b : Int), Z) (dgs T k) = min (dgs T k a + dgs T k b) 1000 from rfl, <- Hx.out, <- Hy.out]; omega
    have HOA : Hid ((wD.alloc (.cells #[.int .i64 (x + y)] 3)).ownsRow B 3 1 (.slice (some ⟨gb, go, none⟩) k cl) k (rwl 1 (fun i _ => .int .i64 (dgs T k i)) k)) := own_below (own_below HOW.out HWR.out) (bAlloc (Below.refl _ _) _)
    have HON1 := one_Rs wD 3 (.int .i64 (x + y))
    have HSZ : Hid (B <= (wD.alloc (.cells #[.int .i64 (x + y)] 3)).heap.size) := by have h1 := HWR.out.size; have h2 := HBL.out; show _ <= _; simp; omega
    have HBQ : Hid (Below w.heap.size w (wD.alloc (.cells #[.int .i64 (x + y)] 3))) := bAlloc (bStep HBR.out HWR.out) _
    clear HOW HWR
    go_wp2_with (first
     | (at_builtin; refine wpList_appR _ rfl _ _ 23 rfl B 3 ii (.int .i64 0) 1 8 Tryz.underlying23 HII.out HZI.out.1 HZI.out.2.1 HZI.out.2.2 rfl (by decide) _ k _ rfl HOA.out 1 _ _ rfl HON1 (fun i _ j _ => rfl) ?c1 ?c2 HSZ.out ?_)
     | go_in)
    case c1 => unfold maxLen; omega
    case c2 => omega
    intro v' w7 hown7 hgrow7 hsep7
    have HNX : Hid (w7.ownsRow B 3 1 v' (k + 1) (rwl 1 (fun i _ => .int .i64 (dgs T (k + 1) i)) (k + 1))) := by
     rw [rwl_congr (G := fun i => if i < k then (fun _ => .int .i64 (dgs T k i)) else (fun _ => .int .i64 (x + y))) (fun i hi j _ => by
      show Value.int .i64 (if i = k then dstep (T k) (dgs T k) else dgs T k i) = _
      by_cases h1 : i < k
      ·rw [if_neg (by omega), if_pos h1]
      ·rw [if_pos (by omega), if_neg h1, <- HD.out])]
     exact hown7
    have HB7 : Hid (Below w.heap.size w w7) := HBQ.out.grown hgrow7 (Nat.le_trans HBS.out HSZ.out) (fun j hj => Nat.le_trans HBS.out (own_ge HOA.out hj))
    clear hown7 hgrow7 hsep7 HON1 HBQ HOA HSZ HD
    go_wp2
    go_roundw
    case measure => simp [intOf]; omega
    case rel => exact ⟨k + 1, by go_num, hlt, HB7.out, HNX⟩
   ·rcases own_Rs (own_below HOW.out HWR.out) with ⟨_, h0⟩ | ⟨gb, go, c2, hv2, _, _, _, hcell2⟩
    ·have := (HAH.out 0 (by decide)); omega
    cases hv2
    have hoc : ∀ a, a < k -> w3.cell? ⟨gb, go + a, none⟩ = some (.int .i64 (dgs T k a)) := fun a ha => by have h := hcell2 a ha 0 (by decide); rw [Nat.mul_one, Nat.add_zero] at h; exact h
    clear hcell2
    have hA0 : 0 <= X /\ X < (k : Int) := HAH.out 0 (by decide)
    obtain ⟨a, ea⟩ : ∃ a : Nat, X = (a : Int) := ⟨(X).toNat, by omega⟩
    subst ea
    have hla : (a : Int) < (k : Int) := hA0.2
    have h0a : (0 : Int) <= (a : Int) := by omega
    have xc := hoc a (by omega)
    obtain ⟨x, ex⟩ := lv (dgs T k a)
    rw [<- ex] at xc
    have xr : 0 <= x /\ x <= 1000 := by rw [ex]; exact HRG.out a
    have x0 := xr.1; have x1 := xr.2
    have Hx : Hid (x = dgs T k a) := ex
    clear xr ex hA0
    obtain ⟨d0, d1, d2, d3, d4, d5, d6⟩ := cells7 f3
    clear hoc
    have HD : Hid (x = dstep (T k) (dgs T k)) := by
     show x = _
     rw [HE.out]
     rw [Hx.out]; rfl
    have x2 : ¬ (1000 : Int) < x := by omega
    have HOA : Hid ((w3.alloc (.cells #[.int .i64 (x)] 3)).ownsRow B 3 1 (.slice (some ⟨gb, go, none⟩) k cl) k (rwl 1 (fun i _ => .int .i64 (dgs T k i)) k)) := own_below (own_below HOW.out HWR.out) (bAlloc (Below.refl _ _) _)
    have HON1 := one_Rs w3 3 (.int .i64 (x))
    have HSZ : Hid (B <= (w3.alloc (.cells #[.int .i64 (x)] 3)).heap.size) := by have h1 := HWR.out.size; have h2 := HBL.out; show _ <= _; simp; omega
    have HBQ : Hid (Below w.heap.size w (w3.alloc (.cells #[.int .i64 (x)] 3))) := bAlloc (bStep HBR.out HWR.out) _
    clear HOW HWR
    go_wp2_with (first
     | (at_builtin; refine wpList_appR _ rfl _ _ 23 rfl B 3 ii (.int .i64 0) 1 8 Tryz.underlying23 HII.out HZI.out.1 HZI.out.2.1 HZI.out.2.2 rfl (by decide) _ k _ rfl HOA.out 1 _ _ rfl HON1 (fun i _ j _ => rfl) ?c1 ?c2 HSZ.out ?_)
     | go_in)
    case c1 => unfold maxLen; omega
    case c2 => omega
    intro v' w7 hown7 hgrow7 hsep7
    have HNX : Hid (w7.ownsRow B 3 1 v' (k + 1) (rwl 1 (fun i _ => .int .i64 (dgs T (k + 1) i)) (k + 1))) := by
     rw [rwl_congr (G := fun i => if i < k then (fun _ => .int .i64 (dgs T k i)) else (fun _ => .int .i64 (x))) (fun i hi j _ => by
      show Value.int .i64 (if i = k then dstep (T k) (dgs T k) else dgs T k i) = _
      by_cases h1 : i < k
      ·rw [if_neg (by omega), if_pos h1]
      ·rw [if_pos (by omega), if_neg h1, <- HD.out])]
     exact hown7
    have HB7 : Hid (Below w.heap.size w w7) := HBQ.out.grown hgrow7 (Nat.le_trans HBS.out HSZ.out) (fun j hj => Nat.le_trans HBS.out (own_ge HOA.out hj))
    clear hown7 hgrow7 hsep7 HON1 HBQ HOA HSZ HD
    go_wp2
    go_roundw
    case measure => simp [intOf]; omega
    case rel => exact ⟨k + 1, by go_num, hlt, HB7.out, HNX⟩
  ·have hki : ¬ (k : Int) < (n : Int) := by omega
   have ek : k = n := by omega
   have HOF : Hid (wr.ownsRow w.heap.size 3 1 (.slice ol k cl) n (rwl 1 (fun i _ => .int .i64 (dgs T n i)) n)) := by have h := own_base HOW.out HBS.out; rw [ek] at h ⊢; exact h
   have HBF : Hid (Below w.heap.size w wr) := hbr
   clear HOW hbr ek
   go_wp2
   go_ret
   exact ⟨⟨_, rfl, HOF.out⟩, HBF.out⟩
end Go.Proofs.YtgkfjpbgdhmhmaaGreatDoor
namespace Go.Proofs.YtgkfjpbgdhmhmaaGreatDoor
open Go.RowKit
theorem rmk1_keep {m : Nat -> Bool} {F : Nat -> Int} {p : Nat} (h : m p = true) : ∀ j, mk1 m F j p = true
 | 0 => h
 | j + 1 => by
  show (mk1 m F j p || _) = true
  rw [rmk1_keep h j, Bool.true_or]
theorem BlkR.keep {w w' : World} {t : TypeId} {b s n : Nat} {F : Nat -> Nat -> Value} (h : BlkR w t b s n F) (hb : w'.heap[b]? = w.heap[b]?) : BlkR w' t b s n F := by
 obtain ⟨c, h1, h2⟩ := h
 exact ⟨c, hb.trans h1, h2⟩
set_option maxRecDepth 100000 in
theorem rcone_in (n cn : Nat) (oa : Option Addr) (T : Nat -> Int × Int × Int × Nat) (root : Nat) (hn : n <= 1000000) (w : World) (hv : Rs w (.slice oa n cn) 7 n (fun i => nC (T i))) (ho : ordB n T = true) (hr : root < n) :
  Calls Tryz.prog 101 #[.slice oa n cn, .int .i64 (root : Int)] w fun e w' => (∃ v, e = .returned v /\ w'.ownsRow w.heap.size 3 1 v (cnN T root (root + 1)) (rwl 1 (fun i _ => .int .i64 (cnF T root (root + 1) i)) (cnN T root (root + 1)))) /\ Below w.heap.size w w' := by
 have HR : Hid (∀ w', Below w.heap.size w w' -> Rs w' (.slice oa n cn) 7 n (fun i => nC (T i))) := fun w' h => hv.below h
 have HO : Hid (∀ i, i < n -> okN (T i) i = true) := (of_decide_eq_true ho : ∀ i, i < n -> okN (T i) i = true)
 obtain ⟨ib, hib, hb0, hb1, hb2⟩ := boolInf
 have HIB := (show Hid _ from hib); have HZB := (show Hid _ from And.intro hb0 (And.intro hb1 hb2)); clear hib hb0 hb1 hb2
 obtain ⟨ii, hii, hi0, hi1, hi2⟩ := intInf
 have HII := (show Hid _ from hii); have HZI := (show Hid _ from And.intro hi0 (And.intro hi1 hi2)); clear hii hi0 hi1 hi2
 obtain ⟨B, eB⟩ := lv (w.heap.size)
 obtain ⟨w0, ew0⟩ := lv (w.alloc (.cells #[] 3))
 have HO0 : Hid (w0.ownsRow B 3 1 (.slice (some ⟨B, 0, none⟩) 0 0) (cnN T root 0) (rwl 1 (fun i _ => .int .i64 (cnF T root 0 i)) (cnN T root 0))) := by rw [eB, ew0]; exact own_new w 3 1
 have hbz : Below w.heap.size w w0 := by rw [ew0]; exact bAlloc (Below.refl _ _) _
 have HB0 : Hid (Below w.heap.size w w0) := hbz
 have HORD : Hid (Calls _ _ _ _ _) := rordered_any n cn oa T hn w0 (hv.below hbz)
 rw [ho] at HORD
 have HBE : Hid (B = w.heap.size) := eB
 clear hv ho hbz
 have hr0 : ¬ (root : Int) < 0 := by omega
 have hr1 : ¬ (n : Int) <= (root : Int) := by omega
 have hr2 : decide ((root : Int) < 0) = false := decide_eq_false hr0
 have hr3 : (root : Int) < (n : Int) := by omega
 have hr4 : (0 : Int) <= (root : Int) := by omega
 go_enter Tryz.func101, Tryz.ntmps101
 go_upto_region 2 with fail
 rw [<- ew0, <- eB]
 clear ew0 eB
 go_wp2_with fail
 refine Calls.mono HORD.out ?_
 rintro e w1 ⟨rfl, hb1⟩
 have HO1 : Hid (w1.ownsRow B 3 1 (.slice (some ⟨B, 0, none⟩) 0 0) (cnN T root 0) (rwl 1 (fun i _ => .int .i64 (cnF T root 0 i)) (cnN T root 0))) := own_below HO0.out hb1
 have HB1 : Hid (Below w.heap.size w w1) := bStep HB0.out hb1
 clear HORD HO0 HB0 hb1
 go_wp2_with (first
  | (at_make; refine wpList_make_full _ rfl _ _ 181 rfl w1.heap.size 4 ib (.bool false) 1 Tryz.underlying181 HIB.out HZB.out.1 HZB.out.2.1 .i64 .i64 n n n rfl rfl rfl rfl ?c1 ?c2 (Nat.le_refl _) ?_)
  | go_in)
 case c1 => rw [HZB.out.2.2]; omega
 case c2 => unfold maxLen; omega
 intro w2 hown hgrow
 obtain ⟨G, eG⟩ := lv (w1.heap.size)
 have lG : w1.heap.size <= G := by omega
 rw [<- eG] at hown ⊢
 have bo2 : BlkR w2 4 G 1 n (fun _ _ => .bool false) := (own_blkR (F := fun _ _ => .bool false) hown (fun i hi j hj => made_bool n i j hi hj)).1
 have hbe : Below w1.heap.size w1 w2 := (Below.refl _ w1).grown hgrow (Nat.le_refl _) (fun j hj => by cases hj)
 have cG := bo2.cell root (by omega) 0 (by decide)
 have fG := bo2.frozen
 rw [Nat.mul_one, Nat.add_zero] at cG
 have bo3 : BlkR (w2.setCell ⟨G, root, none⟩ (.bool true)) 4 G 1 n (fun p _ => .bool (mks T root 0 p)) := (bo2.set root 0 root (by omega) (by decide) (by omega) (.bool true)).congr (fun i _ j hj => by
  have hj0 : j = 0 := by omega
  subst hj0
  show Value.bool (decide (i = root)) = _
  by_cases h1 : i = root
  ·rw [if_pos ⟨h1, rfl⟩, decide_eq_true h1]
  ·rw [if_neg (fun h => h1 h.1), decide_eq_false h1])
 have hb3 : Below w1.heap.size w1 (w2.setCell ⟨G, root, none⟩ (.bool true)) := hbe.setCell lG _
 have HB3 : Hid (BlkR (w2.setCell ⟨G, root, none⟩ (.bool true)) 4 G 1 n (fun p _ => .bool (mks T root 0 p))) := bo3
 have HL3 : Hid (Below w1.heap.size w1 (w2.setCell ⟨G, root, none⟩ (.bool true))) := hb3
 clear hown hgrow eG bo2 bo3 hb3 hbe
 go_wp2
 go_loopw [7] (fun iv wr => ∃ q : Int, iv = .int .i64 q /\ -1 <= q /\ q <= (root : Int) /\ Below w1.heap.size w1 wr /\ Hid (BlkR wr 4 G 1 n (fun p _ => .bool (mks T root ((root : Int) - q).toNat p)))) (fun iv _ => (intOf iv + 1).toNat)
 case atStart => exact ⟨(root : Int), rfl, by omega, by omega, HL3.out, by rw [Int.sub_self]; exact HB3.out⟩
 case round =>
  obtain ⟨q, rfl, hq0, hq1, hbr, HBO⟩ := hrel
  clear HB3 HL3 cG fG
  by_cases hge : 0 <= q
  ·obtain ⟨i, rfl⟩ : ∃ i : Nat, q = (i : Int) := ⟨q.toNat, by omega⟩
   have hir : i <= root := by omega
   obtain ⟨s, es⟩ := lv (root - i)
   have bo : BlkR wr 4 G 1 n (fun p _ => .bool (mks T root s p)) := by
    have h := HBO.out
    rw [show ((root : Int) - (i : Int)).toNat = s by omega] at h
    exact h
   have HSN : Hid (∀ q : Int, q = (i : Int) - 1 -> ((root : Int) - q).toNat = s + 1) := fun q hq => by omega
   have HSI : Hid (root - s = i) := by show root - s = i; omega
   clear HBO es
   have hi0 : (0 : Int) <= (i : Int) := by omega
   have hi1 : (i : Int) < (n : Int) := by omega
   have hi2 : ¬ (i : Int) < 0 := by omega
   have hin : i < n := by omega
   obtain ⟨O, A, X, V, hE⟩ : ∃ O A B V, T i = (O, A, B, V) := ⟨_, _, _, _, rfl⟩
   have hok := HO.out i hin
   unfold okN at hok
   rw [hE, Bool.and_eq_true] at hok
   have hO : 1 <= O /\ O <= 8 := of_decide_eq_true hok.1
   have hAh : ∀ j, j < uN O -> 0 <= uF A X j /\ uF A X j < (i : Int) := of_decide_eq_true hok.2
   have HE : Hid (T i = (O, A, X, V)) := hE
   have HAH : Hid (∀ j, j < uN O -> 0 <= uF A X j /\ uF A X j < (i : Int)) := hAh
   rcases HR.out wr (bStep HB1.out hbr) with ⟨_, h0⟩ | ⟨ab, ao, c', hv, _, _, lab, hcell⟩
   ·omega
   cases hv
   have ca : ∀ j, j < 7 -> wr.cell? ⟨ab, ao + i * 7 + j, none⟩ = some (nC (T i) j) := fun j hj => hcell i hin j hj
   rw [hE] at ca
   obtain ⟨t0, t1, t2, t3, t4, t5, t6⟩ := nC_cells O A X V
   have a0 := ca 0 (by decide); have a1 := ca 1 (by decide); have a2 := ca 2 (by decide); have a3 := ca 3 (by decide); have a4 := ca 4 (by decide); have a5 := ca 5 (by decide); have a6 := ca 6 (by decide)
   rw [t0] at a0; rw [t1] at a1; rw [t2] at a2; rw [t3] at a3; rw [t4] at a4; rw [t5] at a5; rw [t6] at a6
   rw [Nat.add_zero] at a0
   have HU : Hid (Calls _ _ _ _ _) := ruses_any O A X V wr
   clear ca t0 t1 t2 t3 t4 t5 t6 hE lab hcell hok hAh hO
   go_wp2_with fail
   refine Calls.mono HU.out ?_
   rintro e w3 ⟨⟨uv, rfl, hz⟩, hb4⟩
   have hbr4 := bStep hbr hb4; have bo4 := bo.belowAll hb4
   obtain ⟨ou, cu, rfl⟩ := Rs.shape hz
   have hU2 : uN O <= 2 := by unfold uN; split; decide; split <;> decide
   obtain ⟨U, eU⟩ := lv (uN O)
   obtain ⟨F, eF⟩ := lv (uF A X)
   have hcs : ∃ ub uo, ub ≠ G /\ (0 < U -> ou = some ⟨ub, uo, none⟩) /\ ∀ j, j < U -> w3.cell? ⟨ub, uo + j, none⟩ = some (.int .i64 (F j)) := by
    rw [eU, eF]
    rcases hz with ⟨_, h0⟩ | ⟨ub, uo, c', hv, _, _, _, hcell⟩
    ·exact ⟨G + 1, 0, by omega, fun h => by omega, fun j hj => by omega⟩
    ·cases hv
     by_cases h0 : uN O = 0
     ·exact ⟨G + 1, 0, by omega, fun h => by omega, fun j hj => by omega⟩
     ·refine ⟨ub, uo, ?_, fun _ => rfl, fun j hj => by have h := hcell j hj 0 (by decide); rw [Nat.mul_one, Nat.add_zero] at h; exact h⟩
      intro e
      have h := hcell 0 (by omega) 0 (by decide)
      rw [e] at h
      obtain ⟨_, _, h2⟩ := bo4.only h
      cases h2
   obtain ⟨ub, uo, hug, huo, hcu⟩ := hcs
   have HUO : Hid (0 < U -> ou = some ⟨ub, uo, none⟩) := huo
   have HCU : Hid (∀ j, j < U -> w3.cell? ⟨ub, uo + j, none⟩ = some (.int .i64 (F j))) := hcu
   have HFR : Hid (∀ j, j < U -> 0 <= F j /\ F j < (i : Int)) := by rw [eU, eF]; exact HAH.out
   have HEU : Hid (U = uN O) := eU
   have HEF : Hid (F = uF A X) := eF
   rw [<- eU] at hU2 ⊢
   have HL4 : Hid (Below w1.heap.size w1 w3) := hbr4
   have HUG : Hid (ub ≠ G) := hug
   obtain ⟨bm, ebm⟩ := lv (mks T root s i)
   have HBM : Hid (bm = mks T root s i) := ebm
   have HB4 : Hid (BlkR w3 4 G 1 n (fun p _ => .bool (mk1 (mks T root s) F 0 p))) := bo4
   clear hz hb4 hbr bo a0 a1 a2 a3 a4 a5 a6 huo hcu eU eF HAH HU hbr4 bo4 hug ebm hge
   go_wp2
   go_loopw [9] (fun iv wr => ∃ j : Nat, iv = .int .i64 (j : Int) /\ j <= U /\ (bm = false -> j = 0) /\ Below w1.heap.size w1 wr /\ Hid (BlkR wr 4 G 1 n (fun p _ => .bool (mk1 (mks T root s) F j p))) /\ Hid (∀ j, j < U -> wr.cell? ⟨ub, uo + j, none⟩ = some (.int .i64 (F j)))) (fun iv _ => U - (intOf iv).toNat)
   case atStart => exact ⟨0, rfl, Nat.zero_le _, fun _ => rfl, HL4.out, HB4, HCU⟩
   case round =>
    obtain ⟨j, rfl, hjU, hjb, hbi, HBI, HCI⟩ := hrel
    clear HL4 HB4 HCU
    have HJB : Hid (bm = false -> j = 0) := hjb
    clear hjb
    by_cases hlt : j < U
    ·have hji : (j : Int) < (U : Int) := by omega
     have hj0 : (0 : Int) <= (j : Int) := by omega
     have hou := HUO.out (by omega)
     subst hou
     have c0 := HBI.out.cell i hin 0 (by decide)
     rw [Nat.mul_one, Nat.add_zero] at c0
     cases bm
     ·have hjz := HJB.out rfl
      subst hjz
      have c0' : wr.cell? ⟨G, i, none⟩ = some (.bool false) := by rw [c0]; show some (Value.bool (mks T root s i)) = _; rw [<- HBM.out]
      have HBN : Hid (BlkR wr 4 G 1 n (fun p _ => .bool (mks T root (s + 1) p))) := HBI.out.congr (fun p _ l _ => by
       show Value.bool (if mks T root s (root - s) = true then _ else mks T root s p) = _
       rw [HSI.out, <- HBM.out, if_neg (by decide)]; rfl)
      have HLN : Hid (Below w1.heap.size w1 wr) := hbi
      clear c0 hbi HBI HCI HUO
      go_wp2
      go_roundw
      case measure => simp [intOf]
      case rel =>
       refine ⟨(i : Int) - 1, by go_num, by omega, by omega, HLN.out, ?_⟩
       rw [HSN.out _ rfl]
       exact HBN.out
     ·have c0' : wr.cell? ⟨G, i, none⟩ = some (.bool true) := by rw [c0]; show some (Value.bool (mk1 (mks T root s) F j i)) = _; rw [rmk1_keep HBM.out.symm]
      clear c0
      obtain ⟨y, ey⟩ : ∃ y : Nat, F j = (y : Int) := ⟨(F j).toNat, by have := HFR.out j hlt; omega⟩
      have hyr : y < n := by have := HFR.out j hlt; omega
      have a1 := HCI.out j hlt
      rw [ey] at a1
      have hy0 : (0 : Int) <= (y : Int) := by omega
      have hy1 : (y : Int) < (n : Int) := by omega
      have c1 := HBI.out.cell y hyr 0 (by decide)
      have f1 := HBI.out.frozen
      rw [Nat.mul_one, Nat.add_zero] at c1
      have hbN := HBI.out.set y 0 y hyr (by decide) (by omega) (.bool true)
      have HBN : Hid (BlkR (wr.setCell ⟨G, y, none⟩ (.bool true)) 4 G 1 n (fun p _ => .bool (mk1 (mks T root s) F (j + 1) p))) := hbN.congr (fun p _ l hl => by
       have hl0 : l = 0 := by omega
       subst hl0
       show Value.bool (mk1 (mks T root s) F j p || decide ((p : Int) = F j)) = _
       rw [ey]
       by_cases h1 : p = y
       ·rw [if_pos ⟨h1, rfl⟩, decide_eq_true (by omega), Bool.or_true]
       ·rw [if_neg (fun h => h1 h.1), decide_eq_false (by omega), Bool.or_false])
      have HLN : Hid (Below w1.heap.size w1 (wr.setCell ⟨G, y, none⟩ (.bool true))) := hbi.setCell lG _
      have HCN : Hid (∀ j, j < U -> (wr.setCell ⟨G, y, none⟩ (.bool true)).cell? ⟨ub, uo + j, none⟩ = some (.int .i64 (F j))) := fun j hj => by
       rw [World.cell?_of_block (w := wr) (Below.heap_setCell wr ⟨G, y, none⟩ (.bool true) ub HUG.out)]
       exact HCI.out j hj
      clear hbN ey hbi HBI HCI HUO
      go_wp2
      go_roundw
      case measure => simp [intOf]; omega
      case rel => exact ⟨j + 1, by go_num, hlt, fun h => (by cases h), HLN.out, HBN, HCN⟩
    ·have hji : ¬ (j : Int) < (U : Int) := by omega
     have hjU' : j = U := by omega
     have HBN : Hid (BlkR wr 4 G 1 n (fun p _ => .bool (mks T root (s + 1) p))) := HBI.out.congr (fun p _ l _ => by
      show Value.bool (if mks T root s (root - s) = true then mk1 (mks T root s) (uF (T (root - s)).2.1 (T (root - s)).2.2.1) (uN (T (root - s)).1) p else mks T root s p) = _
      rw [HSI.out, <- HBM.out, HE.out]
      cases bm
      ·rw [if_neg (by decide), HJB.out rfl]; rfl
      ·rw [if_pos rfl, hjU', HEU.out, HEF.out])
     have HLN : Hid (Below w1.heap.size w1 wr) := hbi
     clear hjU' hbi HBI HCI
     go_wp2
     go_roundw
     case measure => simp [intOf]
     case rel =>
      refine ⟨(i : Int) - 1, by go_num, by omega, by omega, HLN.out, ?_⟩
      rw [HSN.out _ rfl]
      exact HBN.out
  ·have HQ : Hid (BlkR wr 4 G 1 n (fun p _ => .bool (inC T root p))) := by
    have h := HBO.out
    rw [show ((root : Int) - q).toNat = root + 1 by omega] at h
    exact h
   have HON : Hid (wr.ownsRow B 3 1 (.slice (some ⟨B, 0, none⟩) 0 0) (cnN T root 0) (rwl 1 (fun i _ => .int .i64 (cnF T root 0 i)) (cnN T root 0))) := own_below HO1.out hbr
   have HLR : Hid (Below w.heap.size w wr) := bStep HB1.out hbr
   obtain ⟨w5, ew5⟩ := lv (wr)
   subst ew5
   have HGB : Hid (B < G) := by
    have h1 := (own_lt HO1.out B rfl).2
    show B < G
    omega
   have hqn : q < 0 := by omega
   clear HBO hbr hge lG HO1
   go_wp2
   go_loopw [10, 5] (fun iv lv wq => ∃ k : Nat, iv = .int .i64 (k : Int) /\ k <= root + 1 /\ Below w.heap.size w wq /\ Hid (BlkR wq 4 G 1 n (fun p _ => .bool (inC T root p)) /\ ∃ b, lv.ownBlock = some b /\ b ≠ G) /\ Hid (wq.ownsRow B 3 1 lv (cnN T root k) (rwl 1 (fun i _ => .int .i64 (cnF T root k i)) (cnN T root k)))) (fun iv _ _ => root + 1 - (intOf iv).toNat)
   case atStart => exact ⟨0, rfl, Nat.zero_le _, HLR.out, ⟨HQ.out, B, rfl, Nat.ne_of_lt HGB.out⟩, HON⟩
   case round =>
    obtain ⟨k, rfl, hk, hbq, HQG, HOW⟩ := hrel
    obtain ⟨ol, cl, hsh, _⟩ := own_shape HOW.out
    subst hsh
    clear HON HQ HLR
    by_cases hlt : k < root + 1
    ·have hki : (k : Int) <= (root : Int) := by omega
     have hk0 : (0 : Int) <= (k : Int) := by omega
     have hkn : (k : Int) < (n : Int) := by omega
     have c0 := HQG.out.1.cell k (by omega) 0 (by decide)
     rw [Nat.mul_one, Nat.add_zero] at c0
     obtain ⟨bm, ebm⟩ := lv (inC T root k)
     rw [<- ebm] at c0
     have HBM : Hid (bm = inC T root k) := ebm
     clear ebm
     cases bm
     ·have HNX : Hid (wr.ownsRow B 3 1 (.slice ol (cnN T root k) cl) (cnN T root (k + 1)) (rwl 1 (fun i _ => .int .i64 (cnF T root (k + 1) i)) (cnN T root (k + 1)))) := by
       have e1 : cnN T root (k + 1) = cnN T root k := if_neg (by rw [<- HBM.out]; decide)
       have e2 : ∀ i, cnF T root (k + 1) i = cnF T root k i := fun i => if_neg (fun h => by rw [<- HBM.out] at h; exact absurd h.1 (by decide))
       show wr.ownsRow _ _ _ _ _ _
       rw [e1, rwl_congr (G := fun i _ => .int .i64 (cnF T root k i)) (fun i _ j _ => by rw [e2])]
       exact HOW.out
      have HBQ : Hid (Below w.heap.size w wr) := hbq
      clear hbq HOW
      go_wp2
      go_roundw
      case measure => simp [intOf]; omega
      case rel => exact ⟨k + 1, by go_num, hlt, HBQ.out, HQG, HNX⟩
     ·obtain ⟨N, eN⟩ := lv (cnN T root k)
      have hNk : N <= 1000000 := by rw [eN]; have := cnN_le T root k; omega
      have HOA : Hid ((wr.alloc (.cells #[.int .i64 (k : Int)] 3)).ownsRow B 3 1 (.slice ol N cl) N (rwl 1 (fun i _ => .int .i64 (cnF T root k i)) N)) := by
       rw [eN]; exact own_below HOW.out (bAlloc (Below.refl _ _) _)
      have HON1 := one_Rs wr 3 (.int .i64 (k : Int))
      have HSZ : Hid (B <= (wr.alloc (.cells #[.int .i64 (k : Int)] 3)).heap.size) := by have h1 := hbq.size; have h2 := HBE.out; show _ <= _; simp; omega
      rw [<- eN] at HOW HQG ⊢
      have HQA : Hid (BlkR (wr.alloc (.cells #[.int .i64 (k : Int)] 3)) 4 G 1 n (fun p _ => .bool (inC T root p)) /\ G < (wr.alloc (.cells #[.int .i64 (k : Int)] 3)).heap.size /\ ∃ b, (Value.slice ol N cl).ownBlock = some b /\ b ≠ G) := ⟨HQG.out.1.belowAll (bAlloc (Below.refl _ _) _), (HQG.out.1.belowAll (bAlloc (Below.refl _ _) _)).lt, HQG.out.2⟩
      have HEN : Hid (N = cnN T root k) := eN
      have HBQ : Hid (Below w.heap.size w (wr.alloc (.cells #[.int .i64 (k : Int)] 3))) := bAlloc hbq _
      clear eN hbq HOW HQG
      go_wp2_with (first
       | (at_builtin; refine wpList_appR _ rfl _ _ 23 rfl B 3 ii (.int .i64 0) 1 8 Tryz.underlying23 HII.out HZI.out.1 HZI.out.2.1 HZI.out.2.2 rfl (by decide) _ N _ rfl HOA.out 1 _ _ rfl HON1 (fun i _ j _ => rfl) ?c1 ?c2 HSZ.out ?_)
       | go_in)
      case c1 => unfold maxLen; omega
      case c2 => omega
      intro v' w7 hown7 hgrow7 hsep7
      have HNX : Hid (w7.ownsRow B 3 1 v' (cnN T root (k + 1)) (rwl 1 (fun i _ => .int .i64 (cnF T root (k + 1) i)) (cnN T root (k + 1)))) := by
       have e1 : cnN T root (k + 1) = N + 1 := by rw [HEN.out]; exact if_pos HBM.out.symm
       show w7.ownsRow _ _ _ _ _ _
       rw [e1, rwl_congr (G := fun i => if i < N then (fun _ => .int .i64 (cnF T root k i)) else (fun _ => .int .i64 (k : Int))) (fun i hi j _ => by
        show Value.int .i64 (if inC T root k = true /\ i = cnN T root k then (k : Int) else cnF T root k i) = _
        rw [<- HEN.out, <- HBM.out]
        by_cases h1 : i < N
        ·rw [if_neg (fun h => by omega), if_pos h1]
        ·rw [if_pos ⟨rfl, by omega⟩, if_neg h1])]
       exact hown7
      have HB7 : Hid (Below w.heap.size w w7) := HBQ.out.grown hgrow7 (by rw [<- HBE.out]; exact HSZ.out) (fun j hj => by rw [<- HBE.out]; exact own_ge HOA.out hj)
      have HQ7 : Hid (BlkR w7 4 G 1 n (fun p _ => .bool (inC T root p)) /\ ∃ b, v'.ownBlock = some b /\ b ≠ G) := by
       obtain ⟨h1, h2, b, h3, h4⟩ := HQA.out
       refine ⟨h1.keep (hgrow7.block G h2 (by rw [h3]; intro e; cases e; exact h4 rfl)), ?_⟩
       have hs : ∃ b', v'.ownBlock = some b' := by
        rcases hown7.2 with ⟨_, e0⟩ | ⟨g, cap, cur, hL, _⟩
        ·omega
        ·exact ⟨g, by rw [hL]; rfl⟩
       obtain ⟨b', hb'⟩ := hs
       refine ⟨b', hb', fun e => ?_⟩
       rcases hsep7 b' hb' with h | h
       ·rw [h3] at h; cases h; exact h4 e
       ·have hz : (wr.alloc (.cells #[.int .i64 (k : Int)] 3)).heap.size = wr.heap.size + 1 := by simp
        omega
      clear hown7 hgrow7 hsep7 HON1 HBQ HOA HSZ HQA
      go_wp2
      go_roundw
      case measure => simp [intOf]; omega
      case rel => exact ⟨k + 1, by go_num, hlt, HB7.out, HQ7, HNX⟩
    ·have hki : ¬ (k : Int) <= (root : Int) := by omega
     have ek : k = root + 1 := by omega
     have HFIN : Hid (Below w.heap.size w wr) := hbq
     have HOF : Hid (wr.ownsRow w.heap.size 3 1 (.slice ol (cnN T root k) cl) (cnN T root (root + 1)) (rwl 1 (fun i _ => .int .i64 (cnF T root (root + 1) i)) (cnN T root (root + 1)))) := by have h := HOW.out; rw [ek] at h ⊢; rw [<- HBE.out]; exact h
     clear HOW hbq ek HQG
     go_wp2
     go_ret
     exact ⟨⟨_, rfl, HOF.out⟩, HFIN.out⟩
end Go.Proofs.YtgkfjpbgdhmhmaaGreatDoor
