/- What the reference's Encode and Decode do. -/
import Derived.Test.YthkajdmcmodklaaGreatDoorJ4
import Derived.Test.YthkajdmcmodklaaGreatDoorK7
import Derived.Test.YthkajdmcmodklaaGreatDoorZA
namespace Go.Proofs.YthkajdmcmodklaaGreatDoor
open Go.RowKit

set_option maxHeartbeats 1000000 in
set_option maxRecDepth 20000 in
theorem rencode_not (c : Int) (x y : Nat) (i : Bool) (HON' : ∀ w, Calls Tryz.prog 11 #[.int .i64 c, .agg #[.int .u64 ((limb 0 (x) : Nat) : Int), .int .u64 ((limb 1 (x) : Nat) : Int), .int .u64 ((limb 2 (x) : Nat) : Int), .int .u64 ((limb 3 (x) : Nat) : Int), .int .u64 ((limb 0 (y) : Nat) : Int), .int .u64 ((limb 1 (y) : Nat) : Int), .int .u64 ((limb 2 (y) : Nat) : Int), .int .u64 ((limb 3 (y) : Nat) : Int), .bool i]] w fun e w' => e = .returned (.bool false) ∧ Below w.heap.size w w') (w : World) : Calls Tryz.prog 23 #[.int .i64 c, .agg #[.int .u64 ((limb 0 (x) : Nat) : Int), .int .u64 ((limb 1 (x) : Nat) : Int), .int .u64 ((limb 2 (x) : Nat) : Int), .int .u64 ((limb 3 (x) : Nat) : Int), .int .u64 ((limb 0 (y) : Nat) : Int), .int .u64 ((limb 1 (y) : Nat) : Int), .int .u64 ((limb 2 (y) : Nat) : Int), .int .u64 ((limb 3 (y) : Nat) : Int), .bool i]] w fun e w' => e = .returned (.slice none 0 0) ∧ Below w.heap.size w w' := by
  have HON := (show Hid _ from HON')
  clear HON'
  go_enter Tryz.func23, Tryz.ntmps23
  go_upto_region 1 with fail
  obtain ⟨w0, hw0⟩ : ∃ w0 : World, w0 = w.alloc (.cells #[.int .u64 ((limb 0 x : Nat) : Int), .int .u64 ((limb 1 x : Nat) : Int), .int .u64 ((limb 2 x : Nat) : Int), .int .u64 ((limb 3 x : Nat) : Int), .int .u64 ((limb 0 y : Nat) : Int), .int .u64 ((limb 1 y : Nat) : Int), .int .u64 ((limb 2 y : Nat) : Int), .int .u64 ((limb 3 y : Nat) : Int), .bool i] 26) := ⟨_, rfl⟩
  have bp0 : Pt w0 w.heap.size x y i := by rw [hw0]; exact Pt.newAt _ _ _ _ _ rfl
  have hbw0 : Below w.heap.size w w0 := by rw [hw0]; exact (Below.refl _ _).alloc (Nat.le_refl _) _
  rw [← hw0]
  clear hw0
  obtain ⟨q0, q1, q2, q3, q4, q5, q6, q7, q8, qf⟩ := bp0.cells
  go_wp2_with fail
  refine (HON.out _).mono ?_
  rintro e w1 ⟨rfl, hb1⟩
  go_wp2
  go_ret
  exact ⟨rfl, bStep hbw0 hb1⟩
theorem bs_congr {w : World} {v : Value} {n : Nat} {f g : Nat → Nat} (h : Bs w v n f) (hg : ∀ i, i < n → g i = f i) : Bs w v n g := by
  rcases h with h | ⟨a, c, hv, h1, h2, h3, h4⟩
  · exact Or.inl h
  · exact Or.inr ⟨a, c, hv, h1, h2, h3, fun i hi => by rw [hg i hi]; exact h4 i hi⟩
theorem on_xm {c x y : Nat} {i : Bool} (h : onC c x y i) : x < modN c := by
  rcases h with ⟨h, _⟩ | ⟨_, h, _⟩
  · rw [h]; exact modN_pos c
  · exact h
set_option maxHeartbeats 2000000 in
set_option maxRecDepth 20000 in
theorem rencode_on (c x y : Nat) (i : Bool) (hc : c < 4) (hx : x < 115792089237316195423570985008687907853269984665640564039457584007913129639936) (hy : y < 115792089237316195423570985008687907853269984665640564039457584007913129639936) (hon : onC c x y i) (w : World) : Calls Tryz.prog 23 #[.int .i64 (c : Int), .agg #[.int .u64 ((limb 0 (x) : Nat) : Int), .int .u64 ((limb 1 (x) : Nat) : Int), .int .u64 ((limb 2 (x) : Nat) : Int), .int .u64 ((limb 3 (x) : Nat) : Int), .int .u64 ((limb 0 (y) : Nat) : Int), .int .u64 ((limb 1 (y) : Nat) : Int), .int .u64 ((limb 2 (y) : Nat) : Int), .int .u64 ((limb 3 (y) : Nat) : Int), .bool i]] w fun e w' => ∃ v, e = .returned v ∧ Bs w' v 32 (encB (encN x y)) ∧ Below w.heap.size w w' := by
  have HON : Hid (∀ w, _) := fun w => ron_in c x y i hc hx hy w
  rw [decide_eq_true hon] at HON
  have HEN : Hid (∀ w, _) := fun w => rEncode_any c x hc hx w
  have lx := on_xm hon
  have LX : Hid (x < modN c) := lx
  rw [Nat.mod_eq_of_lt lx] at HEN
  have q := limb0_odd y
  clear hon lx hx hy hc
  go_enter Tryz.func23, Tryz.ntmps23
  go_upto_region 1 with fail
  obtain ⟨w0, hw0⟩ : ∃ w0 : World, w0 = w.alloc (.cells #[.int .u64 ((limb 0 x : Nat) : Int), .int .u64 ((limb 1 x : Nat) : Int), .int .u64 ((limb 2 x : Nat) : Int), .int .u64 ((limb 3 x : Nat) : Int), .int .u64 ((limb 0 y : Nat) : Int), .int .u64 ((limb 1 y : Nat) : Int), .int .u64 ((limb 2 y : Nat) : Int), .int .u64 ((limb 3 y : Nat) : Int), .bool i] 26) := ⟨_, rfl⟩
  have bp0 : Pt w0 w.heap.size x y i := by rw [hw0]; exact Pt.newAt _ _ _ _ _ rfl
  have hbw0 : Below w.heap.size w w0 := by rw [hw0]; exact (Below.refl _ _).alloc (Nat.le_refl _) _
  rw [← hw0]
  clear hw0
  obtain ⟨q0, q1, q2, q3, q4, q5, q6, q7, q8, qf⟩ := bp0.cells
  go_wp2_with fail
  refine (HON.out _).mono ?_
  rintro e w1 ⟨rfl, hb1⟩
  clear q0 q1 q2 q3 q4 q5 q6 q7 q8 qf
  have bp1 := bp0.belowAll hb1
  have hbw1 := bStep hbw0 hb1
  clear bp0 hbw0 hb1 HON
  obtain ⟨q0, q1, q2, q3, q4, q5, q6, q7, q8, qf⟩ := bp1.cells
  go_wp2_with fail
  refine (HEN.out _).mono ?_
  rintro e w2 ⟨v, rfl, hown, hb2⟩
  clear q0 q1 q2 q3 q4 q5 q6 q7 q8 qf HEN
  have bp2 := bp1.belowAll hb2
  have hbw2 := bStep hbw1 hb2
  have hle1 := hbw1.size
  clear bp1 hbw1 hb2
  obtain ⟨q0, q1, q2, q3, q4, q5, q6, q7, q8, qf⟩ := bp2.cells
  rcases Nat.mod_two_eq_zero_or_one y with h | h
  · have e1 : ((limb 0 y : Nat) : Int) % 2 = 0 := by omega
    have e2 : ((limb 0 y : Nat) : Int).tmod 2 = 0 := by rw [Int.tmod_eq_emod_of_nonneg (by omega)]; exact e1
    have HB := (show Hid _ from own_Bs hown)
    have HEQ : Hid (encB (encN x y) = encB x) := funext (fun k => enc_even h)
    clear q h hown LX
    go_wp2
    go_ret
    exact ⟨_, rfl, by rw [HEQ.out]; exact HB.out, hbw2⟩
  · have e1 : ((limb 0 y : Nat) : Int) % 2 = 1 := by omega
    have e2 : ((limb 0 y : Nat) : Int).tmod 2 = 1 := by rw [Int.tmod_eq_emod_of_nonneg (by omega)]; exact e1
    obtain ⟨g, c7, rfl, hgl, hgs, c31, fS, HBs⟩ := own_last hown
    have O1 := or_run8 (encB x 31) (enc_31 LX.out)
    have HBS := (show Hid _ from HBs (encB x 31 + 128))
    have HEQ : Hid (∀ k, k < 32 → encB (encN x y) k = if k = 31 then encB x 31 + 128 else encB x k) := fun k hk => enc_odd LX.out h hk
    obtain ⟨b, eb⟩ : ∃ b, b = encB x 31 + 128 := ⟨_, rfl⟩
    rw [← eb] at O1 HBS HEQ
    have hle : w.heap.size ≤ g := Nat.le_trans hle1 hgl
    clear q h hown HBs LX eb hgl hle1
    go_wp2
    go_ret
    refine ⟨_, rfl, ?_, hbw2.setCell hle _⟩
    refine bs_congr HBS.out (fun k hk => ?_)
    rw [HEQ.out k hk]

theorem and127 : ∀ n : Fin 256, bits BinOp.and IntKind.u8 ((n.val : Nat) : Int) 127 = ((n.val % 128 : Nat) : Int) := by decide +kernel
set_option maxHeartbeats 1000000 in
set_option maxRecDepth 20000 in
theorem rdecode_out (c : Int) (hc : c < 0 ∨ 4 ≤ c) (v : Value) (w : World) :
    Calls Tryz.prog 20 #[.int .i64 c, v] w fun e w' => e = .returned (.tuple #[.agg #[.int .u64 ((limb 0 (0) : Nat) : Int), .int .u64 ((limb 1 (0) : Nat) : Int), .int .u64 ((limb 2 (0) : Nat) : Int), .int .u64 ((limb 3 (0) : Nat) : Int), .int .u64 ((limb 0 (0) : Nat) : Int), .int .u64 ((limb 1 (0) : Nat) : Int), .int .u64 ((limb 2 (0) : Nat) : Int), .int .u64 ((limb 3 (0) : Nat) : Int), .bool false], .int .i64 40]) ∧ Below w.heap.size w w' := by
  have hzp : (.agg #[.int .u64 ((limb 0 (0) : Nat) : Int), .int .u64 ((limb 1 (0) : Nat) : Int), .int .u64 ((limb 2 (0) : Nat) : Int), .int .u64 ((limb 3 (0) : Nat) : Int), .int .u64 ((limb 0 (0) : Nat) : Int), .int .u64 ((limb 1 (0) : Nat) : Int), .int .u64 ((limb 2 (0) : Nat) : Int), .int .u64 ((limb 3 (0) : Nat) : Int), .bool false] : Value) = .agg #[.int .u64 0, .int .u64 0, .int .u64 0, .int .u64 0, .int .u64 0, .int .u64 0, .int .u64 0, .int .u64 0, .bool false] := by rw [limb_zero, limb_zero, limb_zero, limb_zero]; rfl
  rw [hzp]
  clear hzp
  by_cases h0 : c < 0
  · clear hc
    go_enter Tryz.func20, Tryz.ntmps20
    go_wp2
    refine bodyPost_ret (v := .tuple #[.agg #[.int .u64 0, .int .u64 0, .int .u64 0, .int .u64 0, .int .u64 0, .int .u64 0, .int .u64 0, .int .u64 0, .bool false], .int .i64 40]) (by simp [results, Tryz.results20, go_sem]) rfl ⟨rfl, ?_⟩
    repeat (first | with_reducible exact Below.refl _ _ | with_reducible refine Below.alloc ?_ (by first | omega | (simp; omega) | simp) _ | with_reducible refine Below.setCell ?_ (by first | omega | (simp; omega) | simp) _)
  · have h3 : 3 < c := by omega
    clear hc
    go_enter Tryz.func20, Tryz.ntmps20
    go_wp2
    refine bodyPost_ret (v := .tuple #[.agg #[.int .u64 0, .int .u64 0, .int .u64 0, .int .u64 0, .int .u64 0, .int .u64 0, .int .u64 0, .int .u64 0, .bool false], .int .i64 40]) (by simp [results, Tryz.results20, go_sem]) rfl ⟨rfl, ?_⟩
    repeat (first | with_reducible exact Below.refl _ _ | with_reducible refine Below.alloc ?_ (by first | omega | (simp; omega) | simp) _ | with_reducible refine Below.setCell ?_ (by first | omega | (simp; omega) | simp) _)
set_option maxHeartbeats 1000000 in
set_option maxRecDepth 20000 in
theorem rdecode_len (c n : Nat) (hn : ¬ n = 32) (hc : c < 4) (v : Value) (f : Nat → Nat) (w : World) (hB : Bs w v n f) :
    Calls Tryz.prog 20 #[.int .i64 (c : Int), v] w fun e w' => e = .returned (.tuple #[.agg #[.int .u64 ((limb 0 (0) : Nat) : Int), .int .u64 ((limb 1 (0) : Nat) : Int), .int .u64 ((limb 2 (0) : Nat) : Int), .int .u64 ((limb 3 (0) : Nat) : Int), .int .u64 ((limb 0 (0) : Nat) : Int), .int .u64 ((limb 1 (0) : Nat) : Int), .int .u64 ((limb 2 (0) : Nat) : Int), .int .u64 ((limb 3 (0) : Nat) : Int), .bool false], .int .i64 41]) ∧ Below w.heap.size w w' := by
  have hzp : (.agg #[.int .u64 ((limb 0 (0) : Nat) : Int), .int .u64 ((limb 1 (0) : Nat) : Int), .int .u64 ((limb 2 (0) : Nat) : Int), .int .u64 ((limb 3 (0) : Nat) : Int), .int .u64 ((limb 0 (0) : Nat) : Int), .int .u64 ((limb 1 (0) : Nat) : Int), .int .u64 ((limb 2 (0) : Nat) : Int), .int .u64 ((limb 3 (0) : Nat) : Int), .bool false] : Value) = .agg #[.int .u64 0, .int .u64 0, .int .u64 0, .int .u64 0, .int .u64 0, .int .u64 0, .int .u64 0, .int .u64 0, .bool false] := by rw [limb_zero, limb_zero, limb_zero, limb_zero]; rfl
  rw [hzp]
  have h1 : ((n : Int) != 32) = true := by simp; omega
  have hc0 : ¬ (c : Int) < 0 := by omega
  have hc3 : ¬ (3 : Int) < (c : Int) := by omega
  clear hzp hn hc
  rcases hB.cases with ⟨rfl, rfl⟩ | ⟨a, cc, rfl⟩
  all_goals
    clear hB
    go_enter Tryz.func20, Tryz.ntmps20
    go_wp2
    refine bodyPost_ret (v := .tuple #[.agg #[.int .u64 0, .int .u64 0, .int .u64 0, .int .u64 0, .int .u64 0, .int .u64 0, .int .u64 0, .int .u64 0, .bool false], .int .i64 41]) (by simp [results, Tryz.results20, go_sem]) rfl ⟨rfl, ?_⟩
    repeat (first | with_reducible exact Below.refl _ _ | with_reducible refine Below.alloc ?_ (by first | omega | (simp; omega) | simp) _ | with_reducible refine Below.setCell ?_ (by first | omega | (simp; omega) | simp) _)

set_option maxHeartbeats 2000000 in
set_option maxRecDepth 20000 in
theorem rdecode_big (c : Nat) (hc : c < 4) (v : Value) (f : Nat → Nat) (w : World) (hB : Bs w v 32 f) (hf : ∀ i, i < 32 → f i < 256) (hX : ¬ (leN f 32 % 57896044618658097711785492504343953926634992332820282019728792003956564819968) < modN c) :
    Calls Tryz.prog 20 #[.int .i64 (c : Int), v] w fun e w' => e = .returned (.tuple #[.agg #[.int .u64 ((limb 0 (0) : Nat) : Int), .int .u64 ((limb 1 (0) : Nat) : Int), .int .u64 ((limb 2 (0) : Nat) : Int), .int .u64 ((limb 3 (0) : Nat) : Int), .int .u64 ((limb 0 (0) : Nat) : Int), .int .u64 ((limb 1 (0) : Nat) : Int), .int .u64 ((limb 2 (0) : Nat) : Int), .int .u64 ((limb 3 (0) : Nat) : Int), .bool false], .int .i64 41]) ∧ Below w.heap.size w w' := by
  obtain ⟨htop, hlow⟩ := leN_top f hf
  have A1 := and127 ⟨f 31, hf 31 (by decide)⟩
  have HCB : Hid (∀ w, Bs w v 32 f → _) := fun w h => copy_any 32 v f (by decide) w h
  have HDE : Hid (∀ w (u : Value), Bs w u 32 (fun i => if i = 31 then f 31 % 128 else f i) → _) := fun w u hu => rDecode_32 c u (fun i => if i = 31 then f 31 % 128 else f i) hc w hu (fun i hi => by
    show (if i = 31 then f 31 % 128 else f i) < 256
    split
    · omega
    · exact hf i hi)
  rw [hlow] at HDE
  have hc0 : ¬ (c : Int) < 0 := by omega
  have hc3 : ¬ (3 : Int) < (c : Int) := by omega
  have A3 : decide (128 ≤ ((f 31 : Nat) : Int)) = decide (57896044618658097711785492504343953926634992332820282019728792003956564819968 ≤ leN f 32) := by
    apply decide_eq_decide.mpr
    rw [← htop]
    omega
  have hd : decV (modN c) (leN f 32 % 57896044618658097711785492504343953926634992332820282019728792003956564819968) = .tuple #[.agg #[.int .u64 0, .int .u64 0, .int .u64 0, .int .u64 0], .int .i64 21] := by unfold decV; rw [if_neg hX]
  rw [hd] at HDE
  obtain ⟨odd, eo⟩ : ∃ b : Bool, b = decide (57896044618658097711785492504343953926634992332820282019728792003956564819968 ≤ leN f 32) := ⟨_, rfl⟩
  rw [← eo] at A3
  clear eo
  have hzp : (.agg #[.int .u64 ((limb 0 (0) : Nat) : Int), .int .u64 ((limb 1 (0) : Nat) : Int), .int .u64 ((limb 2 (0) : Nat) : Int), .int .u64 ((limb 3 (0) : Nat) : Int), .int .u64 ((limb 0 (0) : Nat) : Int), .int .u64 ((limb 1 (0) : Nat) : Int), .int .u64 ((limb 2 (0) : Nat) : Int), .int .u64 ((limb 3 (0) : Nat) : Int), .bool false] : Value) = .agg #[.int .u64 0, .int .u64 0, .int .u64 0, .int .u64 0, .int .u64 0, .int .u64 0, .int .u64 0, .int .u64 0, .bool false] := by rw [limb_zero, limb_zero, limb_zero, limb_zero]; rfl
  rw [hzp]
  clear hzp
  clear hd
  dsimp only at A1
  obtain ⟨l31, el31⟩ : ∃ m : Nat, m = f 31 % 128 := ⟨_, rfl⟩
  rw [← el31] at A1 HDE
  have HB : Hid (Bs w v 32 f) := hB
  clear htop hlow el31 hf hc hX 
  rcases hB.cases with ⟨_, k0⟩ | ⟨a, cc, rfl⟩
  · cases k0
  clear hB
  go_enter Tryz.func20, Tryz.ntmps20
  go_upto_region 5 with fail
  obtain ⟨w0, hw0⟩ : ∃ w0 : World, w0 = w.alloc (.cells #[.int .u64 0, .int .u64 0, .int .u64 0, .int .u64 0, .int .u64 0, .int .u64 0, .int .u64 0, .int .u64 0, .bool false] 26) := ⟨_, rfl⟩
  have br0 : Pt w0 w.heap.size 0 0 false := by rw [hw0]; exact Pt.zeroAt _ _ rfl
  have hbw0 : Below w.heap.size w w0 := by rw [hw0]; exact (Below.refl _ _).alloc (Nat.le_refl _) _
  rw [← hw0]
  clear hw0
  go_wp2_with fail
  refine (HCB.out _ (HB.out.below hbw0)).mono ?_
  rintro e w7 ⟨u, rfl, hown, hb7⟩
  obtain ⟨g, c7, rfl, hgl, hgs, c31, fS, HBs⟩ := own_last hown
  have br7 := br0.belowAll hb7
  have hbw7 := bStep hbw0 hb7
  have hgw : w.heap.size < g := Nat.lt_of_lt_of_le br0.lt hgl
  have HBS := (show Hid _ from HBs l31)
  clear hown HBs br0 hbw0 hb7 HCB HB
  go_upto_region 8 with fail
  obtain ⟨w8, hw8⟩ : ∃ y : World, y = w7.setCell ⟨g, 31, none⟩ (.int .u8 ((l31 : Nat) : Int)) := ⟨_, rfl⟩
  rw [← hw8] at HBS ⊢
  have br8 : Pt w8 w.heap.size 0 0 false := by rw [hw8]; exact br7.other (Nat.ne_of_lt hgw) _
  have hbw8 : Below w.heap.size w w8 := by rw [hw8]; exact hbw7.setCell (Nat.le_of_lt hgw) _
  clear hw8 br7 hbw7 c31 fS hgs hgl A1
  go_wp2_with fail
  refine (HDE.out _ _ HBS.out).mono ?_
  rintro e w9 ⟨rfl, hb9⟩
  have br9 := ((br8.belowAll hb9).alloc (.cells #[.int .u64 0, .int .u64 0, .int .u64 0, .int .u64 0] 24)).alloc (.cells #[.int .u64 0, .int .u64 0, .int .u64 0, .int .u64 0] 24)
  have bx9 : Blk ((w9.alloc (.cells #[.int .u64 0, .int .u64 0, .int .u64 0, .int .u64 0] 24)).alloc (.cells #[.int .u64 0, .int .u64 0, .int .u64 0, .int .u64 0] 24)) 24 w9.heap.size (fun _ => 0) := (Blk.newAt _ _ _ (fun _ => 0) rfl).alloc _
  have bz9 : Blk ((w9.alloc (.cells #[.int .u64 0, .int .u64 0, .int .u64 0, .int .u64 0] 24)).alloc (.cells #[.int .u64 0, .int .u64 0, .int .u64 0, .int .u64 0] 24)) 24 (w9.heap.size + 1) (fun _ => 0) := Blk.newAt _ _ _ (fun _ => 0) (by simp)
  have hlt : w.heap.size < w9.heap.size := (br8.belowAll hb9).lt
  have hbw9 := bAlloc (bAlloc (bStep hbw8 hb9) (.cells #[.int .u64 0, .int .u64 0, .int .u64 0, .int .u64 0] 24)) (.cells #[.int .u64 0, .int .u64 0, .int .u64 0, .int .u64 0] 24)
  clear br8 hbw8 hb9 HDE HBS
  go_upto_region 10 with fail
  obtain ⟨w10, hw10⟩ : ∃ y : World, y = (w9.alloc (.cells #[.int .u64 0, .int .u64 0, .int .u64 0, .int .u64 0] 24)).alloc (.cells #[.int .u64 0, .int .u64 0, .int .u64 0, .int .u64 0] 24) := ⟨_, rfl⟩
  obtain ⟨N, hN⟩ : ∃ N, N = w9.heap.size := ⟨_, rfl⟩
  rw [← hw10] at br9 bx9 bz9 hbw9 ⊢
  rw [← hN] at bx9 bz9 hlt ⊢
  clear hw10 hN
  have cx := bx9.cell; have cz := bz9.cell
  obtain ⟨r0, r1, r2, r3, r4, r5, r6, r7, r8, rf⟩ := br9.cells
  go_wp2
  refine bodyPost_ret (v := .tuple #[.agg #[.int .u64 0, .int .u64 0, .int .u64 0, .int .u64 0, .int .u64 0, .int .u64 0, .int .u64 0, .int .u64 0, .bool false], .int .i64 41]) (by simp [results, Tryz.results20, go_sem, r0, r1, r2, r3, r4, r5, r6, r7, r8]) rfl ⟨rfl, ?_⟩
  exact bSet9 hbw9 (Nat.le_refl _) _ _ _ _ _ _ _ _ _

set_option maxHeartbeats 2000000 in
set_option maxRecDepth 20000 in
theorem rdecode_zodd (c : Nat) (hc : c < 4) (v : Value) (f : Nat → Nat) (w : World) (hB : Bs w v 32 f) (hf : ∀ i, i < 32 → f i < 256) (hX : (leN f 32 % 57896044618658097711785492504343953926634992332820282019728792003956564819968) = 0) (h0 : ¬ leN f 32 = 0) :
    Calls Tryz.prog 20 #[.int .i64 (c : Int), v] w fun e w' => e = .returned (.tuple #[.agg #[.int .u64 ((limb 0 (0) : Nat) : Int), .int .u64 ((limb 1 (0) : Nat) : Int), .int .u64 ((limb 2 (0) : Nat) : Int), .int .u64 ((limb 3 (0) : Nat) : Int), .int .u64 ((limb 0 (0) : Nat) : Int), .int .u64 ((limb 1 (0) : Nat) : Int), .int .u64 ((limb 2 (0) : Nat) : Int), .int .u64 ((limb 3 (0) : Nat) : Int), .bool false], .int .i64 41]) ∧ Below w.heap.size w w' := by
  obtain ⟨htop, hlow⟩ := leN_top f hf
  have A1 := and127 ⟨f 31, hf 31 (by decide)⟩
  have HCB : Hid (∀ w, Bs w v 32 f → _) := fun w h => copy_any 32 v f (by decide) w h
  have HDE : Hid (∀ w (u : Value), Bs w u 32 (fun i => if i = 31 then f 31 % 128 else f i) → _) := fun w u hu => rDecode_32 c u (fun i => if i = 31 then f 31 % 128 else f i) hc w hu (fun i hi => by
    show (if i = 31 then f 31 % 128 else f i) < 256
    split
    · omega
    · exact hf i hi)
  rw [hlow] at HDE
  have hc0 : ¬ (c : Int) < 0 := by omega
  have hc3 : ¬ (3 : Int) < (c : Int) := by omega
  have A3 : decide (128 ≤ ((f 31 : Nat) : Int)) = decide (57896044618658097711785492504343953926634992332820282019728792003956564819968 ≤ leN f 32) := by
    apply decide_eq_decide.mpr
    rw [← htop]
    omega
  have hd : decV (modN c) (leN f 32 % 57896044618658097711785492504343953926634992332820282019728792003956564819968) = .tuple #[.agg #[.int .u64 ((limb 0 ((leN f 32 % 57896044618658097711785492504343953926634992332820282019728792003956564819968)) : Nat) : Int), .int .u64 ((limb 1 ((leN f 32 % 57896044618658097711785492504343953926634992332820282019728792003956564819968)) : Nat) : Int), .int .u64 ((limb 2 ((leN f 32 % 57896044618658097711785492504343953926634992332820282019728792003956564819968)) : Nat) : Int), .int .u64 ((limb 3 ((leN f 32 % 57896044618658097711785492504343953926634992332820282019728792003956564819968)) : Nat) : Int)], .int .i64 0] := by unfold decV; rw [if_pos (by rw [hX]; exact modN_pos c)]
  rw [hd] at HDE
  have QZ : ∀ w, (binOp .eql 24 (.agg #[.int .u64 ((limb 0 ((leN f 32 % 57896044618658097711785492504343953926634992332820282019728792003956564819968)) : Nat) : Int), .int .u64 ((limb 1 ((leN f 32 % 57896044618658097711785492504343953926634992332820282019728792003956564819968)) : Nat) : Int), .int .u64 ((limb 2 ((leN f 32 % 57896044618658097711785492504343953926634992332820282019728792003956564819968)) : Nat) : Int), .int .u64 ((limb 3 ((leN f 32 % 57896044618658097711785492504343953926634992332820282019728792003956564819968)) : Nat) : Int)]) (.agg #[.int .u64 0, .int .u64 0, .int .u64 0, .int .u64 0])).run Tryz.prog w = .ok (.bool (decide ((leN f 32 % 57896044618658097711785492504343953926634992332820282019728792003956564819968) = 0))) w := fun w => eql0 (leN f 32 % 57896044618658097711785492504343953926634992332820282019728792003956564819968) (by rw [hX]; decide) w
  rw [decide_eq_true hX] at QZ
  have ho : decide (57896044618658097711785492504343953926634992332820282019728792003956564819968 ≤ leN f 32) = true := decide_eq_true (by omega)
  rw [ho] at A3
  have hzp : (.agg #[.int .u64 ((limb 0 (0) : Nat) : Int), .int .u64 ((limb 1 (0) : Nat) : Int), .int .u64 ((limb 2 (0) : Nat) : Int), .int .u64 ((limb 3 (0) : Nat) : Int), .int .u64 ((limb 0 (0) : Nat) : Int), .int .u64 ((limb 1 (0) : Nat) : Int), .int .u64 ((limb 2 (0) : Nat) : Int), .int .u64 ((limb 3 (0) : Nat) : Int), .bool false] : Value) = .agg #[.int .u64 0, .int .u64 0, .int .u64 0, .int .u64 0, .int .u64 0, .int .u64 0, .int .u64 0, .int .u64 0, .bool false] := by rw [limb_zero, limb_zero, limb_zero, limb_zero]; rfl
  rw [hzp]
  clear hzp
  obtain ⟨X, eX⟩ : ∃ X : Nat, X = (leN f 32 % 57896044618658097711785492504343953926634992332820282019728792003956564819968) := ⟨_, rfl⟩
  rw [← eX] at HDE QZ
  clear eX hd
  dsimp only at A1
  obtain ⟨l31, el31⟩ : ∃ m : Nat, m = f 31 % 128 := ⟨_, rfl⟩
  rw [← el31] at A1 HDE
  have HB : Hid (Bs w v 32 f) := hB
  clear htop hlow el31 hf hc hX h0 ho 
  rcases hB.cases with ⟨_, k0⟩ | ⟨a, cc, rfl⟩
  · cases k0
  clear hB
  go_enter Tryz.func20, Tryz.ntmps20
  go_upto_region 5 with fail
  obtain ⟨w0, hw0⟩ : ∃ w0 : World, w0 = w.alloc (.cells #[.int .u64 0, .int .u64 0, .int .u64 0, .int .u64 0, .int .u64 0, .int .u64 0, .int .u64 0, .int .u64 0, .bool false] 26) := ⟨_, rfl⟩
  have br0 : Pt w0 w.heap.size 0 0 false := by rw [hw0]; exact Pt.zeroAt _ _ rfl
  have hbw0 : Below w.heap.size w w0 := by rw [hw0]; exact (Below.refl _ _).alloc (Nat.le_refl _) _
  rw [← hw0]
  clear hw0
  go_wp2_with fail
  refine (HCB.out _ (HB.out.below hbw0)).mono ?_
  rintro e w7 ⟨u, rfl, hown, hb7⟩
  obtain ⟨g, c7, rfl, hgl, hgs, c31, fS, HBs⟩ := own_last hown
  have br7 := br0.belowAll hb7
  have hbw7 := bStep hbw0 hb7
  have hgw : w.heap.size < g := Nat.lt_of_lt_of_le br0.lt hgl
  have HBS := (show Hid _ from HBs l31)
  clear hown HBs br0 hbw0 hb7 HCB HB
  go_upto_region 8 with fail
  obtain ⟨w8, hw8⟩ : ∃ y : World, y = w7.setCell ⟨g, 31, none⟩ (.int .u8 ((l31 : Nat) : Int)) := ⟨_, rfl⟩
  rw [← hw8] at HBS ⊢
  have br8 : Pt w8 w.heap.size 0 0 false := by rw [hw8]; exact br7.other (Nat.ne_of_lt hgw) _
  have hbw8 : Below w.heap.size w w8 := by rw [hw8]; exact hbw7.setCell (Nat.le_of_lt hgw) _
  clear hw8 br7 hbw7 c31 fS hgs hgl A1
  go_wp2_with fail
  refine (HDE.out _ _ HBS.out).mono ?_
  rintro e w9 ⟨rfl, hb9⟩
  have br9 := ((br8.belowAll hb9).alloc (.cells #[.int .u64 ((limb 0 (X) : Nat) : Int), .int .u64 ((limb 1 (X) : Nat) : Int), .int .u64 ((limb 2 (X) : Nat) : Int), .int .u64 ((limb 3 (X) : Nat) : Int)] 24)).alloc (.cells #[.int .u64 0, .int .u64 0, .int .u64 0, .int .u64 0] 24)
  have bx9 : Blk ((w9.alloc (.cells #[.int .u64 ((limb 0 (X) : Nat) : Int), .int .u64 ((limb 1 (X) : Nat) : Int), .int .u64 ((limb 2 (X) : Nat) : Int), .int .u64 ((limb 3 (X) : Nat) : Int)] 24)).alloc (.cells #[.int .u64 0, .int .u64 0, .int .u64 0, .int .u64 0] 24)) 24 w9.heap.size (fun i => limb i X) := (Blk.newAt _ _ _ (fun i => limb i X) rfl).alloc _
  have bz9 : Blk ((w9.alloc (.cells #[.int .u64 ((limb 0 (X) : Nat) : Int), .int .u64 ((limb 1 (X) : Nat) : Int), .int .u64 ((limb 2 (X) : Nat) : Int), .int .u64 ((limb 3 (X) : Nat) : Int)] 24)).alloc (.cells #[.int .u64 0, .int .u64 0, .int .u64 0, .int .u64 0] 24)) 24 (w9.heap.size + 1) (fun _ => 0) := Blk.newAt _ _ _ (fun _ => 0) (by simp)
  have hlt : w.heap.size < w9.heap.size := (br8.belowAll hb9).lt
  have hbw9 := bAlloc (bAlloc (bStep hbw8 hb9) (.cells #[.int .u64 ((limb 0 (X) : Nat) : Int), .int .u64 ((limb 1 (X) : Nat) : Int), .int .u64 ((limb 2 (X) : Nat) : Int), .int .u64 ((limb 3 (X) : Nat) : Int)] 24)) (.cells #[.int .u64 0, .int .u64 0, .int .u64 0, .int .u64 0] 24)
  clear br8 hbw8 hb9 HDE HBS
  go_upto_region 10 with fail
  obtain ⟨w10, hw10⟩ : ∃ y : World, y = (w9.alloc (.cells #[.int .u64 ((limb 0 (X) : Nat) : Int), .int .u64 ((limb 1 (X) : Nat) : Int), .int .u64 ((limb 2 (X) : Nat) : Int), .int .u64 ((limb 3 (X) : Nat) : Int)] 24)).alloc (.cells #[.int .u64 0, .int .u64 0, .int .u64 0, .int .u64 0] 24) := ⟨_, rfl⟩
  obtain ⟨N, hN⟩ : ∃ N, N = w9.heap.size := ⟨_, rfl⟩
  rw [← hw10] at br9 bx9 bz9 hbw9 ⊢
  rw [← hN] at bx9 bz9 hlt ⊢
  clear hw10 hN
  have cx := bx9.cell; have cz := bz9.cell
  obtain ⟨r0, r1, r2, r3, r4, r5, r6, r7, r8, rf⟩ := br9.cells
  go_wp2
  refine bodyPost_ret (v := .tuple #[.agg #[.int .u64 0, .int .u64 0, .int .u64 0, .int .u64 0, .int .u64 0, .int .u64 0, .int .u64 0, .int .u64 0, .bool false], .int .i64 41]) (by simp [results, Tryz.results20, go_sem, r0, r1, r2, r3, r4, r5, r6, r7, r8]) rfl ⟨rfl, ?_⟩
  exact bSet9 hbw9 (Nat.le_refl _) _ _ _ _ _ _ _ _ _

set_option maxHeartbeats 2000000 in
set_option maxRecDepth 20000 in
theorem rdecode_nought (c : Nat) (hc : c < 4) (v : Value) (f : Nat → Nat) (w : World) (hB : Bs w v 32 f) (hf : ∀ i, i < 32 → f i < 256) (h0 : leN f 32 = 0) :
    Calls Tryz.prog 20 #[.int .i64 (c : Int), v] w fun e w' => e = .returned (.tuple #[.agg #[.int .u64 ((limb 0 (0) : Nat) : Int), .int .u64 ((limb 1 (0) : Nat) : Int), .int .u64 ((limb 2 (0) : Nat) : Int), .int .u64 ((limb 3 (0) : Nat) : Int), .int .u64 ((limb 0 (0) : Nat) : Int), .int .u64 ((limb 1 (0) : Nat) : Int), .int .u64 ((limb 2 (0) : Nat) : Int), .int .u64 ((limb 3 (0) : Nat) : Int), .bool true], .int .i64 0]) ∧ Below w.heap.size w w' := by
  obtain ⟨htop, hlow⟩ := leN_top f hf
  have A1 := and127 ⟨f 31, hf 31 (by decide)⟩
  have HCB : Hid (∀ w, Bs w v 32 f → _) := fun w h => copy_any 32 v f (by decide) w h
  have HDE : Hid (∀ w (u : Value), Bs w u 32 (fun i => if i = 31 then f 31 % 128 else f i) → _) := fun w u hu => rDecode_32 c u (fun i => if i = 31 then f 31 % 128 else f i) hc w hu (fun i hi => by
    show (if i = 31 then f 31 % 128 else f i) < 256
    split
    · omega
    · exact hf i hi)
  rw [hlow] at HDE
  have hc0 : ¬ (c : Int) < 0 := by omega
  have hc3 : ¬ (3 : Int) < (c : Int) := by omega
  have A3 : decide (128 ≤ ((f 31 : Nat) : Int)) = decide (57896044618658097711785492504343953926634992332820282019728792003956564819968 ≤ leN f 32) := by
    apply decide_eq_decide.mpr
    rw [← htop]
    omega
  have hX : (leN f 32 % 57896044618658097711785492504343953926634992332820282019728792003956564819968) = 0 := by rw [h0]
  have hd : decV (modN c) (leN f 32 % 57896044618658097711785492504343953926634992332820282019728792003956564819968) = .tuple #[.agg #[.int .u64 ((limb 0 ((leN f 32 % 57896044618658097711785492504343953926634992332820282019728792003956564819968)) : Nat) : Int), .int .u64 ((limb 1 ((leN f 32 % 57896044618658097711785492504343953926634992332820282019728792003956564819968)) : Nat) : Int), .int .u64 ((limb 2 ((leN f 32 % 57896044618658097711785492504343953926634992332820282019728792003956564819968)) : Nat) : Int), .int .u64 ((limb 3 ((leN f 32 % 57896044618658097711785492504343953926634992332820282019728792003956564819968)) : Nat) : Int)], .int .i64 0] := by unfold decV; rw [if_pos (by rw [hX]; exact modN_pos c)]
  rw [hd] at HDE
  have QZ : ∀ w, (binOp .eql 24 (.agg #[.int .u64 ((limb 0 ((leN f 32 % 57896044618658097711785492504343953926634992332820282019728792003956564819968)) : Nat) : Int), .int .u64 ((limb 1 ((leN f 32 % 57896044618658097711785492504343953926634992332820282019728792003956564819968)) : Nat) : Int), .int .u64 ((limb 2 ((leN f 32 % 57896044618658097711785492504343953926634992332820282019728792003956564819968)) : Nat) : Int), .int .u64 ((limb 3 ((leN f 32 % 57896044618658097711785492504343953926634992332820282019728792003956564819968)) : Nat) : Int)]) (.agg #[.int .u64 0, .int .u64 0, .int .u64 0, .int .u64 0])).run Tryz.prog w = .ok (.bool (decide ((leN f 32 % 57896044618658097711785492504343953926634992332820282019728792003956564819968) = 0))) w := fun w => eql0 (leN f 32 % 57896044618658097711785492504343953926634992332820282019728792003956564819968) (by rw [hX]; decide) w
  rw [decide_eq_true hX] at QZ
  have ho : decide (57896044618658097711785492504343953926634992332820282019728792003956564819968 ≤ leN f 32) = false := decide_eq_false (by omega)
  rw [ho] at A3
  have HIN : Hid (∀ w, _) := rInfinity_any
  obtain ⟨X, eX⟩ : ∃ X : Nat, X = (leN f 32 % 57896044618658097711785492504343953926634992332820282019728792003956564819968) := ⟨_, rfl⟩
  rw [← eX] at HDE QZ
  clear eX hd
  dsimp only at A1
  obtain ⟨l31, el31⟩ : ∃ m : Nat, m = f 31 % 128 := ⟨_, rfl⟩
  rw [← el31] at A1 HDE
  have HB : Hid (Bs w v 32 f) := hB
  clear htop hlow el31 hf hc hX h0 ho 
  rcases hB.cases with ⟨_, k0⟩ | ⟨a, cc, rfl⟩
  · cases k0
  clear hB
  go_enter Tryz.func20, Tryz.ntmps20
  go_upto_region 5 with fail
  obtain ⟨w0, hw0⟩ : ∃ w0 : World, w0 = w.alloc (.cells #[.int .u64 0, .int .u64 0, .int .u64 0, .int .u64 0, .int .u64 0, .int .u64 0, .int .u64 0, .int .u64 0, .bool false] 26) := ⟨_, rfl⟩
  have br0 : Pt w0 w.heap.size 0 0 false := by rw [hw0]; exact Pt.zeroAt _ _ rfl
  have hbw0 : Below w.heap.size w w0 := by rw [hw0]; exact (Below.refl _ _).alloc (Nat.le_refl _) _
  rw [← hw0]
  clear hw0
  go_wp2_with fail
  refine (HCB.out _ (HB.out.below hbw0)).mono ?_
  rintro e w7 ⟨u, rfl, hown, hb7⟩
  obtain ⟨g, c7, rfl, hgl, hgs, c31, fS, HBs⟩ := own_last hown
  have br7 := br0.belowAll hb7
  have hbw7 := bStep hbw0 hb7
  have hgw : w.heap.size < g := Nat.lt_of_lt_of_le br0.lt hgl
  have HBS := (show Hid _ from HBs l31)
  clear hown HBs br0 hbw0 hb7 HCB HB
  go_upto_region 8 with fail
  obtain ⟨w8, hw8⟩ : ∃ y : World, y = w7.setCell ⟨g, 31, none⟩ (.int .u8 ((l31 : Nat) : Int)) := ⟨_, rfl⟩
  rw [← hw8] at HBS ⊢
  have br8 : Pt w8 w.heap.size 0 0 false := by rw [hw8]; exact br7.other (Nat.ne_of_lt hgw) _
  have hbw8 : Below w.heap.size w w8 := by rw [hw8]; exact hbw7.setCell (Nat.le_of_lt hgw) _
  clear hw8 br7 hbw7 c31 fS hgs hgl A1
  go_wp2_with fail
  refine (HDE.out _ _ HBS.out).mono ?_
  rintro e w9 ⟨rfl, hb9⟩
  have br9 := ((br8.belowAll hb9).alloc (.cells #[.int .u64 ((limb 0 (X) : Nat) : Int), .int .u64 ((limb 1 (X) : Nat) : Int), .int .u64 ((limb 2 (X) : Nat) : Int), .int .u64 ((limb 3 (X) : Nat) : Int)] 24)).alloc (.cells #[.int .u64 0, .int .u64 0, .int .u64 0, .int .u64 0] 24)
  have bx9 : Blk ((w9.alloc (.cells #[.int .u64 ((limb 0 (X) : Nat) : Int), .int .u64 ((limb 1 (X) : Nat) : Int), .int .u64 ((limb 2 (X) : Nat) : Int), .int .u64 ((limb 3 (X) : Nat) : Int)] 24)).alloc (.cells #[.int .u64 0, .int .u64 0, .int .u64 0, .int .u64 0] 24)) 24 w9.heap.size (fun i => limb i X) := (Blk.newAt _ _ _ (fun i => limb i X) rfl).alloc _
  have bz9 : Blk ((w9.alloc (.cells #[.int .u64 ((limb 0 (X) : Nat) : Int), .int .u64 ((limb 1 (X) : Nat) : Int), .int .u64 ((limb 2 (X) : Nat) : Int), .int .u64 ((limb 3 (X) : Nat) : Int)] 24)).alloc (.cells #[.int .u64 0, .int .u64 0, .int .u64 0, .int .u64 0] 24)) 24 (w9.heap.size + 1) (fun _ => 0) := Blk.newAt _ _ _ (fun _ => 0) (by simp)
  have hlt : w.heap.size < w9.heap.size := (br8.belowAll hb9).lt
  have hbw9 := bAlloc (bAlloc (bStep hbw8 hb9) (.cells #[.int .u64 ((limb 0 (X) : Nat) : Int), .int .u64 ((limb 1 (X) : Nat) : Int), .int .u64 ((limb 2 (X) : Nat) : Int), .int .u64 ((limb 3 (X) : Nat) : Int)] 24)) (.cells #[.int .u64 0, .int .u64 0, .int .u64 0, .int .u64 0] 24)
  clear br8 hbw8 hb9 HDE HBS
  go_upto_region 10 with fail
  obtain ⟨w10, hw10⟩ : ∃ y : World, y = (w9.alloc (.cells #[.int .u64 ((limb 0 (X) : Nat) : Int), .int .u64 ((limb 1 (X) : Nat) : Int), .int .u64 ((limb 2 (X) : Nat) : Int), .int .u64 ((limb 3 (X) : Nat) : Int)] 24)).alloc (.cells #[.int .u64 0, .int .u64 0, .int .u64 0, .int .u64 0] 24) := ⟨_, rfl⟩
  obtain ⟨N, hN⟩ : ∃ N, N = w9.heap.size := ⟨_, rfl⟩
  rw [← hw10] at br9 bx9 bz9 hbw9 ⊢
  rw [← hN] at bx9 bz9 hlt ⊢
  clear hw10 hN
  have cx := bx9.cell; have cz := bz9.cell
  go_wp2_with fail
  refine (HIN.out _).mono ?_
  rintro e w11 ⟨rfl, hb11⟩
  obtain ⟨r0, r1, r2, r3, r4, r5, r6, r7, r8, rf⟩ := (br9.belowAll hb11).cells
  go_wp2
  refine bodyPost_ret (v := .tuple #[.agg #[.int .u64 ((limb 0 (0) : Nat) : Int), .int .u64 ((limb 1 (0) : Nat) : Int), .int .u64 ((limb 2 (0) : Nat) : Int), .int .u64 ((limb 3 (0) : Nat) : Int), .int .u64 ((limb 0 (0) : Nat) : Int), .int .u64 ((limb 1 (0) : Nat) : Int), .int .u64 ((limb 2 (0) : Nat) : Int), .int .u64 ((limb 3 (0) : Nat) : Int), .bool true], .int .i64 0]) (by simp [results, Tryz.results20, go_sem, r0, r1, r2, r3, r4, r5, r6, r7, r8]) rfl ⟨rfl, ?_⟩
  exact bSet9 (bStep hbw9 hb11) (Nat.le_refl _) _ _ _ _ _ _ _ _ _

set_option maxHeartbeats 2000000 in
set_option maxRecDepth 20000 in
theorem rdecode_none (c : Nat) (hc : c < 4) (v : Value) (f : Nat → Nat) (w : World) (hB : Bs w v 32 f) (hf : ∀ i, i < 32 → f i < 256) (hX : (leN f 32 % 57896044618658097711785492504343953926634992332820282019728792003956564819968) < modN c) (hX0 : ¬ (leN f 32 % 57896044618658097711785492504343953926634992332820282019728792003956564819968) = 0) (hR : ¬ hasR c (sqY c (leN f 32 % 57896044618658097711785492504343953926634992332820282019728792003956564819968))) :
    Calls Tryz.prog 20 #[.int .i64 (c : Int), v] w fun e w' => e = .returned (.tuple #[.agg #[.int .u64 ((limb 0 (0) : Nat) : Int), .int .u64 ((limb 1 (0) : Nat) : Int), .int .u64 ((limb 2 (0) : Nat) : Int), .int .u64 ((limb 3 (0) : Nat) : Int), .int .u64 ((limb 0 (0) : Nat) : Int), .int .u64 ((limb 1 (0) : Nat) : Int), .int .u64 ((limb 2 (0) : Nat) : Int), .int .u64 ((limb 3 (0) : Nat) : Int), .bool false], .int .i64 41]) ∧ Below w.heap.size w w' := by
  obtain ⟨htop, hlow⟩ := leN_top f hf
  have A1 := and127 ⟨f 31, hf 31 (by decide)⟩
  have HCB : Hid (∀ w, Bs w v 32 f → _) := fun w h => copy_any 32 v f (by decide) w h
  have HDE : Hid (∀ w (u : Value), Bs w u 32 (fun i => if i = 31 then f 31 % 128 else f i) → _) := fun w u hu => rDecode_32 c u (fun i => if i = 31 then f 31 % 128 else f i) hc w hu (fun i hi => by
    show (if i = 31 then f 31 % 128 else f i) < 256
    split
    · omega
    · exact hf i hi)
  rw [hlow] at HDE
  have hc0 : ¬ (c : Int) < 0 := by omega
  have hc3 : ¬ (3 : Int) < (c : Int) := by omega
  have A3 : decide (128 ≤ ((f 31 : Nat) : Int)) = decide (57896044618658097711785492504343953926634992332820282019728792003956564819968 ≤ leN f 32) := by
    apply decide_eq_decide.mpr
    rw [← htop]
    omega
  have hd : decV (modN c) (leN f 32 % 57896044618658097711785492504343953926634992332820282019728792003956564819968) = .tuple #[.agg #[.int .u64 ((limb 0 ((leN f 32 % 57896044618658097711785492504343953926634992332820282019728792003956564819968)) : Nat) : Int), .int .u64 ((limb 1 ((leN f 32 % 57896044618658097711785492504343953926634992332820282019728792003956564819968)) : Nat) : Int), .int .u64 ((limb 2 ((leN f 32 % 57896044618658097711785492504343953926634992332820282019728792003956564819968)) : Nat) : Int), .int .u64 ((limb 3 ((leN f 32 % 57896044618658097711785492504343953926634992332820282019728792003956564819968)) : Nat) : Int)], .int .i64 0] := by unfold decV; rw [if_pos (hX)]
  rw [hd] at HDE
  have QZ : ∀ w, (binOp .eql 24 (.agg #[.int .u64 ((limb 0 ((leN f 32 % 57896044618658097711785492504343953926634992332820282019728792003956564819968)) : Nat) : Int), .int .u64 ((limb 1 ((leN f 32 % 57896044618658097711785492504343953926634992332820282019728792003956564819968)) : Nat) : Int), .int .u64 ((limb 2 ((leN f 32 % 57896044618658097711785492504343953926634992332820282019728792003956564819968)) : Nat) : Int), .int .u64 ((limb 3 ((leN f 32 % 57896044618658097711785492504343953926634992332820282019728792003956564819968)) : Nat) : Int)]) (.agg #[.int .u64 0, .int .u64 0, .int .u64 0, .int .u64 0])).run Tryz.prog w = .ok (.bool (decide ((leN f 32 % 57896044618658097711785492504343953926634992332820282019728792003956564819968) = 0))) w := fun w => eql0 (leN f 32 % 57896044618658097711785492504343953926634992332820282019728792003956564819968) (lt_M c _ hX) w
  rw [decide_eq_false hX0] at QZ
  have hzp : (.agg #[.int .u64 ((limb 0 (0) : Nat) : Int), .int .u64 ((limb 1 (0) : Nat) : Int), .int .u64 ((limb 2 (0) : Nat) : Int), .int .u64 ((limb 3 (0) : Nat) : Int), .int .u64 ((limb 0 (0) : Nat) : Int), .int .u64 ((limb 1 (0) : Nat) : Int), .int .u64 ((limb 2 (0) : Nat) : Int), .int .u64 ((limb 3 (0) : Nat) : Int), .bool false] : Value) = .agg #[.int .u64 0, .int .u64 0, .int .u64 0, .int .u64 0, .int .u64 0, .int .u64 0, .int .u64 0, .int .u64 0, .bool false] := by rw [limb_zero, limb_zero, limb_zero, limb_zero]; rfl
  rw [hzp]
  clear hzp
  have HQ : Hid (∀ w, _) := fun w => rcube_any c (leN f 32 % 57896044618658097711785492504343953926634992332820282019728792003956564819968) hc (lt_M c _ hX) w
  obtain ⟨r, er⟩ : ∃ z : Nat, z = 0 := ⟨_, rfl⟩
  have HR : Hid (∀ w, Calls Tryz.prog 48 #[.int .i64 (c : Int), .agg #[.int .u64 ((limb 0 (sqY c (leN f 32 % 57896044618658097711785492504343953926634992332820282019728792003956564819968)) : Nat) : Int), .int .u64 ((limb 1 (sqY c (leN f 32 % 57896044618658097711785492504343953926634992332820282019728792003956564819968)) : Nat) : Int), .int .u64 ((limb 2 (sqY c (leN f 32 % 57896044618658097711785492504343953926634992332820282019728792003956564819968)) : Nat) : Int), .int .u64 ((limb 3 (sqY c (leN f 32 % 57896044618658097711785492504343953926634992332820282019728792003956564819968)) : Nat) : Int)]] w fun e w' => e = .returned (.tuple #[.agg #[.int .u64 ((limb 0 (r) : Nat) : Int), .int .u64 ((limb 1 (r) : Nat) : Int), .int .u64 ((limb 2 (r) : Nat) : Int), .int .u64 ((limb 3 (r) : Nat) : Int)], .int .i64 22]) ∧ Below w.heap.size w w') := fun w => by rw [er]; exact rsqrt_no c (sqY c (leN f 32 % 57896044618658097711785492504343953926634992332820282019728792003956564819968)) hc (sqY_M _ _) hR w
  clear er
  obtain ⟨q, eq⟩ : ∃ z, z = sqY c (leN f 32 % 57896044618658097711785492504343953926634992332820282019728792003956564819968) := ⟨_, rfl⟩
  rw [← eq] at HQ HR
  clear eq
  obtain ⟨odd, eo⟩ : ∃ b : Bool, b = decide (57896044618658097711785492504343953926634992332820282019728792003956564819968 ≤ leN f 32) := ⟨_, rfl⟩
  rw [← eo] at A3
  clear eo
  obtain ⟨X, eX⟩ : ∃ X : Nat, X = (leN f 32 % 57896044618658097711785492504343953926634992332820282019728792003956564819968) := ⟨_, rfl⟩
  rw [← eX] at HDE QZ HQ
  clear eX hd
  dsimp only at A1
  obtain ⟨l31, el31⟩ : ∃ m : Nat, m = f 31 % 128 := ⟨_, rfl⟩
  rw [← el31] at A1 HDE
  have HB : Hid (Bs w v 32 f) := hB
  clear htop hlow el31 hf hc hX hX0 hR 
  rcases hB.cases with ⟨_, k0⟩ | ⟨a, cc, rfl⟩
  · cases k0
  clear hB
  go_enter Tryz.func20, Tryz.ntmps20
  go_upto_region 5 with fail
  obtain ⟨w0, hw0⟩ : ∃ w0 : World, w0 = w.alloc (.cells #[.int .u64 0, .int .u64 0, .int .u64 0, .int .u64 0, .int .u64 0, .int .u64 0, .int .u64 0, .int .u64 0, .bool false] 26) := ⟨_, rfl⟩
  have br0 : Pt w0 w.heap.size 0 0 false := by rw [hw0]; exact Pt.zeroAt _ _ rfl
  have hbw0 : Below w.heap.size w w0 := by rw [hw0]; exact (Below.refl _ _).alloc (Nat.le_refl _) _
  rw [← hw0]
  clear hw0
  go_wp2_with fail
  refine (HCB.out _ (HB.out.below hbw0)).mono ?_
  rintro e w7 ⟨u, rfl, hown, hb7⟩
  obtain ⟨g, c7, rfl, hgl, hgs, c31, fS, HBs⟩ := own_last hown
  have br7 := br0.belowAll hb7
  have hbw7 := bStep hbw0 hb7
  have hgw : w.heap.size < g := Nat.lt_of_lt_of_le br0.lt hgl
  have HBS := (show Hid _ from HBs l31)
  clear hown HBs br0 hbw0 hb7 HCB HB
  go_upto_region 8 with fail
  obtain ⟨w8, hw8⟩ : ∃ y : World, y = w7.setCell ⟨g, 31, none⟩ (.int .u8 ((l31 : Nat) : Int)) := ⟨_, rfl⟩
  rw [← hw8] at HBS ⊢
  have br8 : Pt w8 w.heap.size 0 0 false := by rw [hw8]; exact br7.other (Nat.ne_of_lt hgw) _
  have hbw8 : Below w.heap.size w w8 := by rw [hw8]; exact hbw7.setCell (Nat.le_of_lt hgw) _
  clear hw8 br7 hbw7 c31 fS hgs hgl A1
  go_wp2_with fail
  refine (HDE.out _ _ HBS.out).mono ?_
  rintro e w9 ⟨rfl, hb9⟩
  have br9 := ((br8.belowAll hb9).alloc (.cells #[.int .u64 ((limb 0 (X) : Nat) : Int), .int .u64 ((limb 1 (X) : Nat) : Int), .int .u64 ((limb 2 (X) : Nat) : Int), .int .u64 ((limb 3 (X) : Nat) : Int)] 24)).alloc (.cells #[.int .u64 0, .int .u64 0, .int .u64 0, .int .u64 0] 24)
  have bx9 : Blk ((w9.alloc (.cells #[.int .u64 ((limb 0 (X) : Nat) : Int), .int .u64 ((limb 1 (X) : Nat) : Int), .int .u64 ((limb 2 (X) : Nat) : Int), .int .u64 ((limb 3 (X) : Nat) : Int)] 24)).alloc (.cells #[.int .u64 0, .int .u64 0, .int .u64 0, .int .u64 0] 24)) 24 w9.heap.size (fun i => limb i X) := (Blk.newAt _ _ _ (fun i => limb i X) rfl).alloc _
  have bz9 : Blk ((w9.alloc (.cells #[.int .u64 ((limb 0 (X) : Nat) : Int), .int .u64 ((limb 1 (X) : Nat) : Int), .int .u64 ((limb 2 (X) : Nat) : Int), .int .u64 ((limb 3 (X) : Nat) : Int)] 24)).alloc (.cells #[.int .u64 0, .int .u64 0, .int .u64 0, .int .u64 0] 24)) 24 (w9.heap.size + 1) (fun _ => 0) := Blk.newAt _ _ _ (fun _ => 0) (by simp)
  have hlt : w.heap.size < w9.heap.size := (br8.belowAll hb9).lt
  have hbw9 := bAlloc (bAlloc (bStep hbw8 hb9) (.cells #[.int .u64 ((limb 0 (X) : Nat) : Int), .int .u64 ((limb 1 (X) : Nat) : Int), .int .u64 ((limb 2 (X) : Nat) : Int), .int .u64 ((limb 3 (X) : Nat) : Int)] 24)) (.cells #[.int .u64 0, .int .u64 0, .int .u64 0, .int .u64 0] 24)
  clear br8 hbw8 hb9 HDE HBS
  go_upto_region 10 with fail
  obtain ⟨w10, hw10⟩ : ∃ y : World, y = (w9.alloc (.cells #[.int .u64 ((limb 0 (X) : Nat) : Int), .int .u64 ((limb 1 (X) : Nat) : Int), .int .u64 ((limb 2 (X) : Nat) : Int), .int .u64 ((limb 3 (X) : Nat) : Int)] 24)).alloc (.cells #[.int .u64 0, .int .u64 0, .int .u64 0, .int .u64 0] 24) := ⟨_, rfl⟩
  obtain ⟨N, hN⟩ : ∃ N, N = w9.heap.size := ⟨_, rfl⟩
  rw [← hw10] at br9 bx9 bz9 hbw9 ⊢
  rw [← hN] at bx9 bz9 hlt ⊢
  clear hw10 hN
  have cx := bx9.cell; have cz := bz9.cell
  go_wp2_with fail
  refine (HQ.out _).mono ?_
  rintro e w11 ⟨rfl, hb11⟩
  clear cx cz QZ HQ
  have br11 := br9.belowAll hb11; have bx11 := bx9.belowAll hb11
  have hbw11 := bStep hbw9 hb11
  clear br9 bx9 bz9 hbw9 hb11
  go_wp2_with fail
  refine (HR.out _).mono ?_
  rintro e w12 ⟨rfl, hb12⟩
  have br13 := (br11.belowAll hb12).alloc (.cells #[.int .u64 ((limb 0 (r) : Nat) : Int), .int .u64 ((limb 1 (r) : Nat) : Int), .int .u64 ((limb 2 (r) : Nat) : Int), .int .u64 ((limb 3 (r) : Nat) : Int)] 24); have bx13 := (bx11.belowAll hb12).alloc (.cells #[.int .u64 ((limb 0 (r) : Nat) : Int), .int .u64 ((limb 1 (r) : Nat) : Int), .int .u64 ((limb 2 (r) : Nat) : Int), .int .u64 ((limb 3 (r) : Nat) : Int)] 24)
  have by13 : Blk (w12.alloc (.cells #[.int .u64 ((limb 0 (r) : Nat) : Int), .int .u64 ((limb 1 (r) : Nat) : Int), .int .u64 ((limb 2 (r) : Nat) : Int), .int .u64 ((limb 3 (r) : Nat) : Int)] 24)) 24 w12.heap.size (fun i => limb i r) := Blk.newAt _ _ _ (fun i => limb i r) rfl
  have hlt2 : N < w12.heap.size := (bx11.belowAll hb12).lt
  have hbw13 := bAlloc (bStep hbw11 hb12) (.cells #[.int .u64 ((limb 0 (r) : Nat) : Int), .int .u64 ((limb 1 (r) : Nat) : Int), .int .u64 ((limb 2 (r) : Nat) : Int), .int .u64 ((limb 3 (r) : Nat) : Int)] 24)
  clear br11 bx11 hbw11 hb12 HR
  go_upto_region 15 with fail
  obtain ⟨w13, hw13⟩ : ∃ y : World, y = w12.alloc (.cells #[.int .u64 ((limb 0 (r) : Nat) : Int), .int .u64 ((limb 1 (r) : Nat) : Int), .int .u64 ((limb 2 (r) : Nat) : Int), .int .u64 ((limb 3 (r) : Nat) : Int)] 24) := ⟨_, rfl⟩
  obtain ⟨M, hM⟩ : ∃ N, N = w12.heap.size := ⟨_, rfl⟩
  rw [← hw13] at br13 bx13 by13 hbw13 ⊢
  rw [← hM] at by13 hlt2 ⊢
  clear hw13 hM
  obtain ⟨r0, r1, r2, r3, r4, r5, r6, r7, r8, rf⟩ := br13.cells
  go_wp2
  refine bodyPost_ret (v := .tuple #[.agg #[.int .u64 0, .int .u64 0, .int .u64 0, .int .u64 0, .int .u64 0, .int .u64 0, .int .u64 0, .int .u64 0, .bool false], .int .i64 41]) (by simp [results, Tryz.results20, go_sem, r0, r1, r2, r3, r4, r5, r6, r7, r8]) rfl ⟨rfl, ?_⟩
  exact bSet9 hbw13 (Nat.le_refl _) _ _ _ _ _ _ _ _ _

set_option maxHeartbeats 2000000 in
set_option maxRecDepth 20000 in
theorem rdecode_yes (c : Nat) (hc : c < 4) (v : Value) (f : Nat → Nat) (w : World) (hB : Bs w v 32 f) (hf : ∀ i, i < 32 → f i < 256) (hX : (leN f 32 % 57896044618658097711785492504343953926634992332820282019728792003956564819968) < modN c) (hX0 : ¬ (leN f 32 % 57896044618658097711785492504343953926634992332820282019728792003956564819968) = 0) (hR : hasR c (sqY c (leN f 32 % 57896044618658097711785492504343953926634992332820282019728792003956564819968))) :
    Calls Tryz.prog 20 #[.int .i64 (c : Int), v] w fun e w' => e = .returned (.tuple #[.agg #[.int .u64 ((limb 0 ((leN f 32 % 57896044618658097711785492504343953926634992332820282019728792003956564819968)) : Nat) : Int), .int .u64 ((limb 1 ((leN f 32 % 57896044618658097711785492504343953926634992332820282019728792003956564819968)) : Nat) : Int), .int .u64 ((limb 2 ((leN f 32 % 57896044618658097711785492504343953926634992332820282019728792003956564819968)) : Nat) : Int), .int .u64 ((limb 3 ((leN f 32 % 57896044618658097711785492504343953926634992332820282019728792003956564819968)) : Nat) : Int), .int .u64 ((limb 0 ((liftY c (leN f 32 % 57896044618658097711785492504343953926634992332820282019728792003956564819968) (decide (57896044618658097711785492504343953926634992332820282019728792003956564819968 ≤ leN f 32)))) : Nat) : Int), .int .u64 ((limb 1 ((liftY c (leN f 32 % 57896044618658097711785492504343953926634992332820282019728792003956564819968) (decide (57896044618658097711785492504343953926634992332820282019728792003956564819968 ≤ leN f 32)))) : Nat) : Int), .int .u64 ((limb 2 ((liftY c (leN f 32 % 57896044618658097711785492504343953926634992332820282019728792003956564819968) (decide (57896044618658097711785492504343953926634992332820282019728792003956564819968 ≤ leN f 32)))) : Nat) : Int), .int .u64 ((limb 3 ((liftY c (leN f 32 % 57896044618658097711785492504343953926634992332820282019728792003956564819968) (decide (57896044618658097711785492504343953926634992332820282019728792003956564819968 ≤ leN f 32)))) : Nat) : Int), .bool false], .int .i64 0]) ∧ Below w.heap.size w w' := by
  obtain ⟨htop, hlow⟩ := leN_top f hf
  have A1 := and127 ⟨f 31, hf 31 (by decide)⟩
  have HCB : Hid (∀ w, Bs w v 32 f → _) := fun w h => copy_any 32 v f (by decide) w h
  have HDE : Hid (∀ w (u : Value), Bs w u 32 (fun i => if i = 31 then f 31 % 128 else f i) → _) := fun w u hu => rDecode_32 c u (fun i => if i = 31 then f 31 % 128 else f i) hc w hu (fun i hi => by
    show (if i = 31 then f 31 % 128 else f i) < 256
    split
    · omega
    · exact hf i hi)
  rw [hlow] at HDE
  have hc0 : ¬ (c : Int) < 0 := by omega
  have hc3 : ¬ (3 : Int) < (c : Int) := by omega
  have A3 : decide (128 ≤ ((f 31 : Nat) : Int)) = decide (57896044618658097711785492504343953926634992332820282019728792003956564819968 ≤ leN f 32) := by
    apply decide_eq_decide.mpr
    rw [← htop]
    omega
  have hd : decV (modN c) (leN f 32 % 57896044618658097711785492504343953926634992332820282019728792003956564819968) = .tuple #[.agg #[.int .u64 ((limb 0 ((leN f 32 % 57896044618658097711785492504343953926634992332820282019728792003956564819968)) : Nat) : Int), .int .u64 ((limb 1 ((leN f 32 % 57896044618658097711785492504343953926634992332820282019728792003956564819968)) : Nat) : Int), .int .u64 ((limb 2 ((leN f 32 % 57896044618658097711785492504343953926634992332820282019728792003956564819968)) : Nat) : Int), .int .u64 ((limb 3 ((leN f 32 % 57896044618658097711785492504343953926634992332820282019728792003956564819968)) : Nat) : Int)], .int .i64 0] := by unfold decV; rw [if_pos (hX)]
  rw [hd] at HDE
  have QZ : ∀ w, (binOp .eql 24 (.agg #[.int .u64 ((limb 0 ((leN f 32 % 57896044618658097711785492504343953926634992332820282019728792003956564819968)) : Nat) : Int), .int .u64 ((limb 1 ((leN f 32 % 57896044618658097711785492504343953926634992332820282019728792003956564819968)) : Nat) : Int), .int .u64 ((limb 2 ((leN f 32 % 57896044618658097711785492504343953926634992332820282019728792003956564819968)) : Nat) : Int), .int .u64 ((limb 3 ((leN f 32 % 57896044618658097711785492504343953926634992332820282019728792003956564819968)) : Nat) : Int)]) (.agg #[.int .u64 0, .int .u64 0, .int .u64 0, .int .u64 0])).run Tryz.prog w = .ok (.bool (decide ((leN f 32 % 57896044618658097711785492504343953926634992332820282019728792003956564819968) = 0))) w := fun w => eql0 (leN f 32 % 57896044618658097711785492504343953926634992332820282019728792003956564819968) (lt_M c _ hX) w
  rw [decide_eq_false hX0] at QZ
  have HQ : Hid (∀ w, _) := fun w => rcube_any c (leN f 32 % 57896044618658097711785492504343953926634992332820282019728792003956564819968) hc (lt_M c _ hX) w
  have HR : Hid (∀ w, _) := fun w => rsqrt_yes c (sqY c (leN f 32 % 57896044618658097711785492504343953926634992332820282019728792003956564819968)) hc (sqY_M _ _) hR w
  have HN : Hid (∀ w, _) := fun w => ref2Neg_any c (rt c (sqY c (leN f 32 % 57896044618658097711785492504343953926634992332820282019728792003956564819968))) hc (lt_M c _ (rt_lt _ _)) w
  have E1 : Hid (decide (57896044618658097711785492504343953926634992332820282019728792003956564819968 ≤ leN f 32) = true → liftY c (leN f 32 % 57896044618658097711785492504343953926634992332820282019728792003956564819968) (decide (57896044618658097711785492504343953926634992332820282019728792003956564819968 ≤ leN f 32)) = subP c 0 (rt c (sqY c (leN f 32 % 57896044618658097711785492504343953926634992332820282019728792003956564819968)))) := fun h => by rw [h]; rfl
  have E2 : Hid (decide (57896044618658097711785492504343953926634992332820282019728792003956564819968 ≤ leN f 32) = false → liftY c (leN f 32 % 57896044618658097711785492504343953926634992332820282019728792003956564819968) (decide (57896044618658097711785492504343953926634992332820282019728792003956564819968 ≤ leN f 32)) = rt c (sqY c (leN f 32 % 57896044618658097711785492504343953926634992332820282019728792003956564819968))) := fun h => by rw [h]; rfl
  obtain ⟨Y, eY⟩ : ∃ z, z = liftY c (leN f 32 % 57896044618658097711785492504343953926634992332820282019728792003956564819968) (decide (57896044618658097711785492504343953926634992332820282019728792003956564819968 ≤ leN f 32)) := ⟨_, rfl⟩
  rw [← eY] at E1 E2 ⊢
  clear eY
  obtain ⟨r, er⟩ : ∃ z, z = rt c (sqY c (leN f 32 % 57896044618658097711785492504343953926634992332820282019728792003956564819968)) := ⟨_, rfl⟩
  rw [← er] at HR HN E1 E2
  obtain ⟨n, en⟩ : ∃ z, z = subP c 0 r := ⟨_, rfl⟩
  rw [← en] at HN E1
  clear er en
  obtain ⟨q, eq⟩ : ∃ z, z = sqY c (leN f 32 % 57896044618658097711785492504343953926634992332820282019728792003956564819968) := ⟨_, rfl⟩
  rw [← eq] at HQ HR
  clear eq
  obtain ⟨odd, eo⟩ : ∃ b : Bool, b = decide (57896044618658097711785492504343953926634992332820282019728792003956564819968 ≤ leN f 32) := ⟨_, rfl⟩
  rw [← eo] at A3 E1 E2
  clear eo
  obtain ⟨X, eX⟩ : ∃ X : Nat, X = (leN f 32 % 57896044618658097711785492504343953926634992332820282019728792003956564819968) := ⟨_, rfl⟩
  rw [← eX] at HDE QZ HQ ⊢
  clear eX hd
  dsimp only at A1
  obtain ⟨l31, el31⟩ : ∃ m : Nat, m = f 31 % 128 := ⟨_, rfl⟩
  rw [← el31] at A1 HDE
  have HB : Hid (Bs w v 32 f) := hB
  clear htop hlow el31 hf hc hX hX0 hR 
  rcases hB.cases with ⟨_, k0⟩ | ⟨a, cc, rfl⟩
  · cases k0
  clear hB
  go_enter Tryz.func20, Tryz.ntmps20
  go_upto_region 5 with fail
  obtain ⟨w0, hw0⟩ : ∃ w0 : World, w0 = w.alloc (.cells #[.int .u64 0, .int .u64 0, .int .u64 0, .int .u64 0, .int .u64 0, .int .u64 0, .int .u64 0, .int .u64 0, .bool false] 26) := ⟨_, rfl⟩
  have br0 : Pt w0 w.heap.size 0 0 false := by rw [hw0]; exact Pt.zeroAt _ _ rfl
  have hbw0 : Below w.heap.size w w0 := by rw [hw0]; exact (Below.refl _ _).alloc (Nat.le_refl _) _
  rw [← hw0]
  clear hw0
  go_wp2_with fail
  refine (HCB.out _ (HB.out.below hbw0)).mono ?_
  rintro e w7 ⟨u, rfl, hown, hb7⟩
  obtain ⟨g, c7, rfl, hgl, hgs, c31, fS, HBs⟩ := own_last hown
  have br7 := br0.belowAll hb7
  have hbw7 := bStep hbw0 hb7
  have hgw : w.heap.size < g := Nat.lt_of_lt_of_le br0.lt hgl
  have HBS := (show Hid _ from HBs l31)
  clear hown HBs br0 hbw0 hb7 HCB HB
  go_upto_region 8 with fail
  obtain ⟨w8, hw8⟩ : ∃ y : World, y = w7.setCell ⟨g, 31, none⟩ (.int .u8 ((l31 : Nat) : Int)) := ⟨_, rfl⟩
  rw [← hw8] at HBS ⊢
  have br8 : Pt w8 w.heap.size 0 0 false := by rw [hw8]; exact br7.other (Nat.ne_of_lt hgw) _
  have hbw8 : Below w.heap.size w w8 := by rw [hw8]; exact hbw7.setCell (Nat.le_of_lt hgw) _
  clear hw8 br7 hbw7 c31 fS hgs hgl A1
  go_wp2_with fail
  refine (HDE.out _ _ HBS.out).mono ?_
  rintro e w9 ⟨rfl, hb9⟩
  have br9 := ((br8.belowAll hb9).alloc (.cells #[.int .u64 ((limb 0 (X) : Nat) : Int), .int .u64 ((limb 1 (X) : Nat) : Int), .int .u64 ((limb 2 (X) : Nat) : Int), .int .u64 ((limb 3 (X) : Nat) : Int)] 24)).alloc (.cells #[.int .u64 0, .int .u64 0, .int .u64 0, .int .u64 0] 24)
  have bx9 : Blk ((w9.alloc (.cells #[.int .u64 ((limb 0 (X) : Nat) : Int), .int .u64 ((limb 1 (X) : Nat) : Int), .int .u64 ((limb 2 (X) : Nat) : Int), .int .u64 ((limb 3 (X) : Nat) : Int)] 24)).alloc (.cells #[.int .u64 0, .int .u64 0, .int .u64 0, .int .u64 0] 24)) 24 w9.heap.size (fun i => limb i X) := (Blk.newAt _ _ _ (fun i => limb i X) rfl).alloc _
  have bz9 : Blk ((w9.alloc (.cells #[.int .u64 ((limb 0 (X) : Nat) : Int), .int .u64 ((limb 1 (X) : Nat) : Int), .int .u64 ((limb 2 (X) : Nat) : Int), .int .u64 ((limb 3 (X) : Nat) : Int)] 24)).alloc (.cells #[.int .u64 0, .int .u64 0, .int .u64 0, .int .u64 0] 24)) 24 (w9.heap.size + 1) (fun _ => 0) := Blk.newAt _ _ _ (fun _ => 0) (by simp)
  have hlt : w.heap.size < w9.heap.size := (br8.belowAll hb9).lt
  have hbw9 := bAlloc (bAlloc (bStep hbw8 hb9) (.cells #[.int .u64 ((limb 0 (X) : Nat) : Int), .int .u64 ((limb 1 (X) : Nat) : Int), .int .u64 ((limb 2 (X) : Nat) : Int), .int .u64 ((limb 3 (X) : Nat) : Int)] 24)) (.cells #[.int .u64 0, .int .u64 0, .int .u64 0, .int .u64 0] 24)
  clear br8 hbw8 hb9 HDE HBS
  go_upto_region 10 with fail
  obtain ⟨w10, hw10⟩ : ∃ y : World, y = (w9.alloc (.cells #[.int .u64 ((limb 0 (X) : Nat) : Int), .int .u64 ((limb 1 (X) : Nat) : Int), .int .u64 ((limb 2 (X) : Nat) : Int), .int .u64 ((limb 3 (X) : Nat) : Int)] 24)).alloc (.cells #[.int .u64 0, .int .u64 0, .int .u64 0, .int .u64 0] 24) := ⟨_, rfl⟩
  obtain ⟨N, hN⟩ : ∃ N, N = w9.heap.size := ⟨_, rfl⟩
  rw [← hw10] at br9 bx9 bz9 hbw9 ⊢
  rw [← hN] at bx9 bz9 hlt ⊢
  clear hw10 hN
  have cx := bx9.cell; have cz := bz9.cell
  go_wp2_with fail
  refine (HQ.out _).mono ?_
  rintro e w11 ⟨rfl, hb11⟩
  clear cx cz QZ HQ
  have br11 := br9.belowAll hb11; have bx11 := bx9.belowAll hb11
  have hbw11 := bStep hbw9 hb11
  clear br9 bx9 bz9 hbw9 hb11
  go_wp2_with fail
  refine (HR.out _).mono ?_
  rintro e w12 ⟨rfl, hb12⟩
  have br13 := (br11.belowAll hb12).alloc (.cells #[.int .u64 ((limb 0 (r) : Nat) : Int), .int .u64 ((limb 1 (r) : Nat) : Int), .int .u64 ((limb 2 (r) : Nat) : Int), .int .u64 ((limb 3 (r) : Nat) : Int)] 24); have bx13 := (bx11.belowAll hb12).alloc (.cells #[.int .u64 ((limb 0 (r) : Nat) : Int), .int .u64 ((limb 1 (r) : Nat) : Int), .int .u64 ((limb 2 (r) : Nat) : Int), .int .u64 ((limb 3 (r) : Nat) : Int)] 24)
  have by13 : Blk (w12.alloc (.cells #[.int .u64 ((limb 0 (r) : Nat) : Int), .int .u64 ((limb 1 (r) : Nat) : Int), .int .u64 ((limb 2 (r) : Nat) : Int), .int .u64 ((limb 3 (r) : Nat) : Int)] 24)) 24 w12.heap.size (fun i => limb i r) := Blk.newAt _ _ _ (fun i => limb i r) rfl
  have hlt2 : N < w12.heap.size := (bx11.belowAll hb12).lt
  have hbw13 := bAlloc (bStep hbw11 hb12) (.cells #[.int .u64 ((limb 0 (r) : Nat) : Int), .int .u64 ((limb 1 (r) : Nat) : Int), .int .u64 ((limb 2 (r) : Nat) : Int), .int .u64 ((limb 3 (r) : Nat) : Int)] 24)
  clear br11 bx11 hbw11 hb12 HR
  go_upto_region 15 with fail
  obtain ⟨w13, hw13⟩ : ∃ y : World, y = w12.alloc (.cells #[.int .u64 ((limb 0 (r) : Nat) : Int), .int .u64 ((limb 1 (r) : Nat) : Int), .int .u64 ((limb 2 (r) : Nat) : Int), .int .u64 ((limb 3 (r) : Nat) : Int)] 24) := ⟨_, rfl⟩
  obtain ⟨M, hM⟩ : ∃ N, N = w12.heap.size := ⟨_, rfl⟩
  rw [← hw13] at br13 bx13 by13 hbw13 ⊢
  rw [← hM] at by13 hlt2 ⊢
  clear hw13 hM
  cases odd with
  | false =>
    have HY : Hid (Y = r) := E2.out rfl
    clear E1 E2 HN
    have cx := bx13.cell; have cy := by13.cell
    obtain ⟨r0, r1, r2, r3, r4, r5, r6, r7, r8, rf⟩ := br13.cells
    go_wp2
    refine bodyPost_ret (v := .tuple #[.agg #[.int .u64 ((limb 0 (X) : Nat) : Int), .int .u64 ((limb 1 (X) : Nat) : Int), .int .u64 ((limb 2 (X) : Nat) : Int), .int .u64 ((limb 3 (X) : Nat) : Int), .int .u64 ((limb 0 (r) : Nat) : Int), .int .u64 ((limb 1 (r) : Nat) : Int), .int .u64 ((limb 2 (r) : Nat) : Int), .int .u64 ((limb 3 (r) : Nat) : Int), .bool false], .int .i64 0]) (by simp [results, Tryz.results20, go_sem, r0, r1, r2, r3, r4, r5, r6, r7, r8]) rfl ⟨by rw [HY.out], ?_⟩
    exact bSet9 hbw13 (Nat.le_refl _) _ _ _ _ _ _ _ _ _
  | true =>
    have HY : Hid (Y = n) := E1.out rfl
    clear E1 E2
    have cy := by13.cell
    go_wp2_with fail
    refine (HN.out _).mono ?_
    rintro e w14 ⟨rfl, hb14⟩
    clear cy
    have bx14 := bx13.belowAll hb14; have br14 := br13.belowAll hb14; have by14 := by13.belowAll hb14
    have hbw14 := bStep hbw13 hb14
    clear bx13 br13 by13 hbw13 hb14 HN
    have cy := by14.cell; have fy := by14.frozen
    go_upto_region 19 with fail
    obtain ⟨w15, hw15⟩ : ∃ y : World, y = (((w14.setCell ⟨M, 0, none⟩ (.int .u64 ((limb 0 n : Nat) : Int))).setCell ⟨M, 1, none⟩ (.int .u64 ((limb 1 n : Nat) : Int))).setCell ⟨M, 2, none⟩ (.int .u64 ((limb 2 n : Nat) : Int))).setCell ⟨M, 3, none⟩ (.int .u64 ((limb 3 n : Nat) : Int)) := ⟨_, rfl⟩
    have bx15 : Blk w15 24 N (fun i => limb i X) := by rw [hw15]; exact bx14.other4 (by omega) _ _ _ _
    have by15 : Blk w15 24 M (fun i => limb i n) := by rw [hw15]; exact by14.set4 (fun i => limb i n)
    have br15 : Pt w15 w.heap.size 0 0 false := by rw [hw15]; exact br14.other4 (by omega) _ _ _ _
    have hbw15 : Below w.heap.size w w15 := by rw [hw15]; exact bSet4 hbw14 (by omega) _ _ _ _
    rw [← hw15]
    clear hw15 bx14 br14 by14 hbw14 cy fy
    have cx := bx15.cell; have cy := by15.cell
    obtain ⟨r0, r1, r2, r3, r4, r5, r6, r7, r8, rf⟩ := br15.cells
    go_wp2
    refine bodyPost_ret (v := .tuple #[.agg #[.int .u64 ((limb 0 (X) : Nat) : Int), .int .u64 ((limb 1 (X) : Nat) : Int), .int .u64 ((limb 2 (X) : Nat) : Int), .int .u64 ((limb 3 (X) : Nat) : Int), .int .u64 ((limb 0 (n) : Nat) : Int), .int .u64 ((limb 1 (n) : Nat) : Int), .int .u64 ((limb 2 (n) : Nat) : Int), .int .u64 ((limb 3 (n) : Nat) : Int), .bool false], .int .i64 0]) (by simp [results, Tryz.results20, go_sem, r0, r1, r2, r3, r4, r5, r6, r7, r8]) rfl ⟨by rw [HY.out], ?_⟩
    exact bSet9 hbw15 (Nat.le_refl _) _ _ _ _ _ _ _ _ _

end Go.Proofs.YthkajdmcmodklaaGreatDoor
