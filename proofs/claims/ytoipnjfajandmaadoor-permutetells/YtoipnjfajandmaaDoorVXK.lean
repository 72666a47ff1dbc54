/- PermuteTells where Products refuses, or answers no chunk. -/
import Derived.Test.YtoipnjfajandmaaDoorVRW1
import Derived.Test.YtoipnjfajandmaaDoorVXG
import Derived.Test.YtoipnjfajandmaaDoorVXH
namespace Go.Proofs.YtoipnjfajandmaaDoor
open Go.RowKit
set_option maxHeartbeats 8000000 in
set_option maxRecDepth 20000 in
theorem pt_early (s : Nat) (k : Int) (om : Option Addr) (m cm : Nat) (on : Option Addr) (n cn : Nat) (oc : Option Addr) (l cl be ga : Nat) (F F2 : Nat → Value) (L L2 : Nat → Nat) (X Y : Nat → Nat → Nat) (f : Nat → Nat) (hs : s < 2) (hm : m ≤ 20) (hn : n ≤ 20) (hl : l ≤ 4398046510976) (hL : ∀ i, i < m → L i ≤ 4398046510976) (hL2 : ∀ i, i < n → L2 i ≤ 4398046510976)
    (hpr : ∀ (oa ob : Option Addr) (ca cb b : Nat) (Fa Fb : Nat → Value) (w' : World), GlobD w' → 3 ≤ b → Tab w' (.slice oa m ca) m Fa L X → Tab w' (.slice ob n cb) n Fb L2 Y → PurseS w' w'.heap.size b l f → Calls Tryd.prog 14 #[.int .i64 (s : Int), .int .i64 k, .slice oa m ca, .slice ob n cb, .agg #[.int .u64 ((limb 0 (be) : Nat) : Int), .int .u64 ((limb 1 (be) : Nat) : Int), .int .u64 ((limb 2 (be) : Nat) : Int), .int .u64 ((limb 3 (be) : Nat) : Int)], .agg #[.int .u64 ((limb 0 (ga) : Nat) : Int), .int .u64 ((limb 1 (ga) : Nat) : Int), .int .u64 ((limb 2 (ga) : Nat) : Int), .int .u64 ((limb 3 (ga) : Nat) : Int)], .pointer (some ⟨b, 0, none⟩)] w' fun e w'' => (∃ (v : Value) (er : Int), e = .returned (.tuple #[v, .int .i64 er]) ∧ (er ≠ 0 ∨ ∃ T, v = .slice (some ⟨T, 0, none⟩) 0 0)) ∧ KU w'.heap.size b w' w'')
    (w : World) (hg : GlobD w) (e1 : Tab w (.slice om m cm) m F L X) (e2 : Tab w (.slice on n cn) n F2 L2 Y) (e3 : Es w (.slice oc l cl) l f) :
    Calls Tryd.prog 5 #[.int .i64 (s : Int), .int .i64 k, .slice om m cm, .slice on n cn, .agg #[.int .u64 ((limb 0 (be) : Nat) : Int), .int .u64 ((limb 1 (be) : Nat) : Int), .int .u64 ((limb 2 (be) : Nat) : Int), .int .u64 ((limb 3 (be) : Nat) : Int)], .agg #[.int .u64 ((limb 0 (ga) : Nat) : Int), .int .u64 ((limb 1 (ga) : Nat) : Int), .int .u64 ((limb 2 (ga) : Nat) : Int), .int .u64 ((limb 3 (ga) : Nat) : Int)], .slice oc l cl] w fun e w' => e = .returned (.bool true) ∧ Below w.heap.size w w' := by
  have HG : Hid (GlobD w) := hg
  have HAL : Hid (∀ w, GlobD w → _) := fun w hg => alive16_any w hg
  have HE : Hid (Tab w (.slice om m cm) m F L X ∧ Tab w (.slice on n cn) n F2 L2 Y ∧ Es w (.slice oc l cl) l f) := ⟨e1, e2, e3⟩
  have HM : Hid (m ≤ 20 ∧ n ≤ 20 ∧ l ≤ 4398046510976 ∧ (∀ i, i < m → L i ≤ 4398046510976) ∧ ∀ i, i < n → L2 i ≤ 4398046510976) := ⟨hm, hn, hl, hL, hL2⟩
  have HPR : Hid (∀ (oa ob : Option Addr) (ca cb b : Nat) (Fa Fb : Nat → Value) (w' : World), GlobD w' → _) := hpr
  have HD1 : Hid (decide (20 < m) = false) := decide_eq_false (by omega)
  have HD2 : Hid (decide (20 < n) = false) := decide_eq_false (by omega)
  have i0 : ¬ (s : Int) < 0 := by omega
  have i1 : ¬ (1 : Int) < (s : Int) := by omega
  clear hg e1 e2 e3 hm hn hl hL hL2 hs hpr
  go_enter Tryd.func5, Tryd.ntmps5
  go_wp2_with fail
  have hs1 : (w.alloc (.cells #[.int .u64 ((limb 0 (be) : Nat) : Int), .int .u64 ((limb 1 (be) : Nat) : Int), .int .u64 ((limb 2 (be) : Nat) : Int), .int .u64 ((limb 3 (be) : Nat) : Int)] 24)).heap.size = w.heap.size + 1 := Array.size_push ..
  obtain ⟨N11, e0⟩ : ∃ z, z = w.heap.size := ⟨_, rfl⟩
  obtain ⟨N12, e1⟩ : ∃ z, z = N11 + 1 := ⟨_, rfl⟩
  obtain ⟨w1, hw1⟩ : ∃ z : World, z = (w.alloc (.cells #[.int .u64 ((limb 0 (be) : Nat) : Int), .int .u64 ((limb 1 (be) : Nat) : Int), .int .u64 ((limb 2 (be) : Nat) : Int), .int .u64 ((limb 3 (be) : Nat) : Int)] 24)).alloc (.cells #[.int .u64 ((limb 0 (ga) : Nat) : Int), .int .u64 ((limb 1 (ga) : Nat) : Int), .int .u64 ((limb 2 (ga) : Nat) : Int), .int .u64 ((limb 3 (ga) : Nat) : Int)] 24) := ⟨_, rfl⟩
  have b11 : Blk w1 24 N11 (fun i => limb i be) := by rw [hw1]; exact (Blk.newAt _ _ _ (fun i => limb i be) e0).alloc _
  have b12 : Blk w1 24 N12 (fun i => limb i ga) := by rw [hw1]; exact Blk.newAt _ _ _ (fun i => limb i ga) (by rw [e1, e0, hs1])
  have hb1 : Below w.heap.size w w1 := by rw [hw1]; exact bAlloc (bAlloc (Below.refl _ _) _) _
  rw [← hw1]
  try rw [← e0]
  try rw [← e1]
  have l11 : w.heap.size ≤ N11 := by omega
  have l12 : w.heap.size ≤ N12 := by omega
  have n11_12 : N11 ≠ N12 := by omega
  clear hw1 e0 e1 hs1
  have HG1 : Hid (GlobD w1) := HG.out.below hb1
  refine (HAL.out w1 HG1.out).mono ?_
  rintro e w2 ⟨rfl, hbx⟩
  have hb2 := bStep hb1 hbx
  have c11 := b11.belowAll hbx; have c12 := b12.belowAll hbx
  clear b11 b12 hb1 hbx HAL HG1
  go_wp2_with fail
  refine (great16_any om m cm w2).mono ?_
  rintro e w3 ⟨rfl, e3⟩
  rw [e3, HD1.out]
  clear e3 w3
  go_wp2_with fail
  refine (great16_any on n cn w2).mono ?_
  rintro e w3 ⟨rfl, e3⟩
  rw [e3, HD2.out]
  clear e3 w3
  have HG2 : Hid (GlobD w2) := HG.out.below hb2
  have HB2 : Hid (Below w.heap.size w w2) := hb2
  have g11 := c11.cell; have g12 := c12.cell
  have G11 : Rd4 w2 N11 0 be := ⟨g11 0 (by decide), g11 1 (by decide), g11 2 (by decide), g11 3 (by decide)⟩
  have G12 : Rd4 w2 N12 0 ga := ⟨g12 0 (by decide), g12 1 (by decide), g12 2 (by decide), g12 3 (by decide)⟩
  have l11 := c11.lt; have l12 := c12.lt
  clear g11 g12 c11 c12 hb2
  go_upto_region 5 with fail
  refine wp_region_Z (fun w' => Rd4 w' N11 0 be ∧ Rd4 w' N12 0 ga) 99 (by kernel_rfl) ?_
  obtain ⟨wD, hD⟩ : ∃ z : World, z = w2.drew := ⟨_, rfl⟩
  rw [← hD]
  have lowD : Below w2.heap.size w2 wD := by rw [hD]; exact (Below.refl _ _).drew
  clear hD
  have HS0 : Rd4 wD N11 0 be ∧ Rd4 wD N12 0 ga := ⟨G11.below lowD l11, G12.below lowD l12⟩
  refine wpZ_take (i := 0) (v := .int .i64 (s : Int)) 36 rfl rfl (by kernel_rfl) (by kernel_rfl) (by kernel_rfl) (Or.inr (by decide)) (fun _ _ _ h => h) (Or.inl ⟨by rfl, fun w hSw => by go_simp⟩) HS0 ?_
  simp only [Act.put, List.setIfInBounds_toArray]
  try dsimp only [List.set_cons_zero, List.set_cons_succ]
  refine wpZ_take (i := 1) (v := .int .i64 k) 37 rfl rfl (by kernel_rfl) (by kernel_rfl) (by kernel_rfl) (Or.inr (by decide)) (fun _ _ _ h => h) (Or.inl ⟨by rfl, fun w hSw => by go_simp⟩) HS0 ?_
  simp only [Act.put, List.setIfInBounds_toArray]
  try dsimp only [List.set_cons_zero, List.set_cons_succ]
  refine wpZ_take (i := 2) (v := .slice om m cm) 38 rfl rfl (by kernel_rfl) (by kernel_rfl) (by kernel_rfl) (Or.inr (by decide)) (fun _ _ _ h => h) (Or.inl ⟨by rfl, fun w hSw => by go_simp⟩) HS0 ?_
  simp only [Act.put, List.setIfInBounds_toArray]
  try dsimp only [List.set_cons_zero, List.set_cons_succ]
  refine wpZ_take (i := 4) (v := .slice on n cn) 40 rfl rfl (by kernel_rfl) (by kernel_rfl) (by kernel_rfl) (Or.inr (by decide)) (fun _ _ _ h => h) (Or.inl ⟨by rfl, fun w hSw => by go_simp⟩) HS0 ?_
  simp only [Act.put, List.setIfInBounds_toArray]
  try dsimp only [List.set_cons_zero, List.set_cons_succ]
  refine wpZ_take (i := 6) (v := .agg #[.int .u64 ((limb 0 (be) : Nat) : Int), .int .u64 ((limb 1 (be) : Nat) : Int), .int .u64 ((limb 2 (be) : Nat) : Int), .int .u64 ((limb 3 (be) : Nat) : Int)]) 42 rfl rfl (by kernel_rfl) (by kernel_rfl) (by kernel_rfl) (Or.inr (by decide)) (fun _ _ _ h => h) (Or.inl ⟨by rfl, fun w hSw => by (obtain ⟨q0, q1, q2, q3⟩ : w.cell? ⟨N11, 0, none⟩ = _ ∧ w.cell? ⟨N11, 1, none⟩ = _ ∧ w.cell? ⟨N11, 2, none⟩ = _ ∧ w.cell? ⟨N11, 3, none⟩ = _ := hSw.1; clear hSw; go_simp)⟩) HS0 ?_
  simp only [Act.put, List.setIfInBounds_toArray]
  try dsimp only [List.set_cons_zero, List.set_cons_succ]
  refine wpZ_take (i := 7) (v := .agg #[.int .u64 ((limb 0 (ga) : Nat) : Int), .int .u64 ((limb 1 (ga) : Nat) : Int), .int .u64 ((limb 2 (ga) : Nat) : Int), .int .u64 ((limb 3 (ga) : Nat) : Int)]) 43 rfl rfl (by kernel_rfl) (by kernel_rfl) (by kernel_rfl) (Or.inr (by decide)) (fun _ _ _ h => h) (Or.inl ⟨by rfl, fun w hSw => by (obtain ⟨q0, q1, q2, q3⟩ : w.cell? ⟨N12, 0, none⟩ = _ ∧ w.cell? ⟨N12, 1, none⟩ = _ ∧ w.cell? ⟨N12, 2, none⟩ = _ ∧ w.cell? ⟨N12, 3, none⟩ = _ := hSw.2; clear hSw; go_simp)⟩) HS0 ?_
  simp only [Act.put, List.setIfInBounds_toArray]
  try dsimp only [List.set_cons_zero, List.set_cons_succ]
  refine wpZ_take (i := 8) (v := .slice oc l cl) 44 rfl rfl (by kernel_rfl) (by kernel_rfl) (by kernel_rfl) (Or.inr (by decide)) (fun _ _ _ h => h) (Or.inl ⟨by rfl, fun w hSw => by go_simp⟩) HS0 ?_
  simp only [Act.put, List.setIfInBounds_toArray]
  try dsimp only [List.set_cons_zero, List.set_cons_succ]
  refine wpZ_one (i := 3) (by kernel_rfl) rfl (fun K hK => ?_)
  go_simp
  refine (copyT_any m cm om F L X (by have := HM.out; omega) (fun i hi => HM.out.2.2.2.1 i hi) wD (HE.out.1.below (bStep HB2.out lowD))).mono ?_
  rintro e wE1 ⟨⟨va, rfl, Fa, ta⟩, hbx1⟩
  have lowwE1 := bStep lowD hbx1
  have SwE1 : Rd4 wE1 N11 0 be ∧ Rd4 wE1 N12 0 ga := ⟨G11.below lowwE1 l11, G12.below lowwE1 l12⟩
  have tA := ta.tab
  clear ta
  obtain ⟨oa, ca, rfl⟩ := tA.shape
  go_wp2_with fail
  refine hK.out _ _ (fun _ => SwE1) ?_
  clear hK K hbx1
  refine wpZ_one (i := 5) (by kernel_rfl) rfl (fun K hK => ?_)
  go_simp
  refine (copyT_any n cn on F2 L2 Y (by have := HM.out; omega) (fun i hi => HM.out.2.2.2.2 i hi) wE1 (HE.out.2.1.below (bStep HB2.out lowwE1))).mono ?_
  rintro e wE2 ⟨⟨vb, rfl, Fb, tb⟩, hbx2⟩
  have lowwE2 := bStep lowwE1 hbx2
  have SwE2 : Rd4 wE2 N11 0 be ∧ Rd4 wE2 N12 0 ga := ⟨G11.below lowwE2 l11, G12.below lowwE2 l12⟩
  have tB := tb.tab
  clear tb
  obtain ⟨ob, cb, rfl⟩ := tB.shape
  have tA := tA.below hbx2
  go_wp2_with fail
  refine hK.out _ _ (fun _ => SwE2) ?_
  clear hK K hbx2
  refine wpZ_one (i := 9) (by kernel_rfl) rfl (fun K hK => ?_)
  go_simp
  refine (copyB_any l _ f HM.out.2.2.1 wE2 (HE.out.2.2.below (bStep HB2.out lowwE2))).mono ?_
  rintro e wE3 ⟨vc, rfl, oc9, hbx3⟩
  have lowwE3 := bStep lowwE2 hbx3
  have SwE3 : Rd4 wE3 N11 0 be ∧ Rd4 wE3 N12 0 ga := ⟨G11.below lowwE3 l11, G12.below lowwE3 l12⟩
  obtain ⟨od, cd, rfl⟩ := (own_Es oc9).shape
  have ec9 := own_Es oc9
  clear oc9
  have tA := tA.below hbx3
  have tB := tB.below hbx3
  go_wp2_with fail
  refine hK.out _ _ (fun _ => SwE3) ?_
  clear hK K hbx3
  refine wpZ_one (i := 10) (by kernel_rfl) rfl (fun K hK => ?_)
  go_simp
  refine (purse_any l _ f HM.out.2.2.1 wE3 ec9).mono ?_
  rintro e wE4 ⟨⟨b, m', cm', om', rfl, lb, em', hone, hpe, hpn⟩, hbx4⟩
  have lowwE4 := bStep lowwE3 hbx4
  have SwE4 : Rd4 wE4 N11 0 be ∧ Rd4 wE4 N12 0 ga := ⟨G11.below lowwE4 l11, G12.below lowwE4 l12⟩
  rw [em'] at hone hpe
  clear em' ec9
  have tA := tA.below hbx4
  have tB := tB.below hbx4
  have HPU : Hid (PurseS wE4 wE4.heap.size b l f) := ⟨om', cm', hone, hpe, hone.lt, fun g o e => ⟨(hpn.out g o e).2, by
    rcases hpe with ⟨h, _⟩ | ⟨b2, o2, c2, hv, _, _, hl, _⟩
    · rw [e] at h; cases h
    · rw [e] at hv; cases hv; exact hl⟩⟩
  have HNB : Hid (N11 ≠ b ∧ N12 ≠ b ∧ w.heap.size ≤ b ∧ 3 ≤ b) := by
    have x5 := HB2.out.size; have x6 := HG.out.ge; have x7 := lowwE3.size
    show _ ∧ _
    omega
  clear hone hpe hpn lb
  go_wp2_with fail
  refine hK.out _ _ (fun _ => SwE4) ?_
  clear hK K hbx4
  refine wpZ_one (i := 11) (by kernel_rfl) rfl (fun K hK => ?_)
  go_simp
  refine (HPR.out oa ob ca cb b Fa Fb wE4 (HG2.out.below lowwE4) HNB.out.2.2.2 tA tB HPU.out).mono ?_
  rintro e wP ⟨hpd, hku⟩
  have hkk := hku.toKept
  have SP : Rd4 wP N11 0 be ∧ Rd4 wP N12 0 ga := ⟨Rd4.kept SwE4.1 (Nat.lt_of_lt_of_le l11 lowwE4.size) HNB.out.1 hkk, Rd4.kept SwE4.2 (Nat.lt_of_lt_of_le l12 lowwE4.size) HNB.out.2.1 hkk⟩
  have hbP := bKept (bStep HB2.out lowwE4) HNB.out.2.2.1 hkk
  have HBP : Hid (Below w.heap.size w wP) := hbP
  clear hku hkk hbP tA tB
  obtain ⟨v, er, rfl, hor⟩ := hpd
  go_wp2_with fail
  refine hK.out _ _ (fun _ => SP) ?_
  clear hK K
  refine wpZ_take (i := 12) (v := .tuple #[v, .int .i64 er]) 35 rfl rfl (by kernel_rfl) (by kernel_rfl) (by kernel_rfl) (Or.inr (by decide)) (fun _ _ _ h => h) (Or.inl ⟨by rfl, fun w hSw => by go_simp⟩) SP ?_
  simp only [Act.put, List.setIfInBounds_toArray]
  try dsimp only [List.set_cons_zero, List.set_cons_succ]
  refine wpZ_take (i := 13) (v := v) 48 rfl rfl (by kernel_rfl) (by kernel_rfl) (by kernel_rfl) (Or.inr (by decide)) (fun _ _ _ h => h) (Or.inl ⟨by rfl, fun w hSw => by go_simp⟩) SP ?_
  simp only [Act.put, List.setIfInBounds_toArray]
  try dsimp only [List.set_cons_zero, List.set_cons_succ]
  refine wpZ_take (i := 14) (v := .int .i64 er) 49 rfl rfl (by kernel_rfl) (by kernel_rfl) (by kernel_rfl) (Or.inr (by decide)) (fun _ _ _ h => h) (Or.inl ⟨by rfl, fun w hSw => by go_simp⟩) SP ?_
  simp only [Act.put, List.setIfInBounds_toArray]
  try dsimp only [List.set_cons_zero, List.set_cons_succ]
  refine wpZ_take (i := 15) (v := v) 15 rfl rfl (by kernel_rfl) (by kernel_rfl) (by kernel_rfl) (Or.inr (by decide)) (fun _ _ _ h => h) (Or.inl ⟨by rfl, fun w hSw => by go_simp⟩) SP ?_
  simp only [Act.put, List.setIfInBounds_toArray]
  try dsimp only [List.set_cons_zero, List.set_cons_succ]
  refine wpZ_take (i := 16) (v := .int .i64 er) 16 rfl rfl (by kernel_rfl) (by kernel_rfl) (by kernel_rfl) (Or.inr (by decide)) (fun _ _ _ h => h) (Or.inl ⟨by rfl, fun w hSw => by go_simp⟩) SP ?_
  simp only [Act.put, List.setIfInBounds_toArray]
  try dsimp only [List.set_cons_zero, List.set_cons_succ]
  refine wpZ_done (by kernel_rfl) ?_ _
  have hbf := HBP.out
  by_cases h0 : er = 0
  · obtain ⟨T, rfl⟩ : ∃ T, v = .slice (some ⟨T, 0, none⟩) 0 0 := by
      rcases hor with h | h
      · exact absurd h0 h
      · exact h
    subst h0
    clear hor SP G11 G12
    go_wp2
    go_ret
    exact ⟨rfl, hbf⟩
  · have h0b : (er != 0) = true := by simpa using h0
    clear hor SP G11 G12
    go_wp2
    go_ret
    exact ⟨rfl, hbf⟩
end Go.Proofs.YtoipnjfajandmaaDoor

/- PermuteTells where Products answers. -/
namespace Go.Proofs.YtoipnjfajandmaaDoor
open Go.RowKit
theorem eqlIn (X Y : Nat) (hX : X < 115792089237316195423570985008687907853269984665640564039457584007913129639936) (hY : Y < 115792089237316195423570985008687907853269984665640564039457584007913129639936) (w : World) : (Op.equalIn 10000 24 (.agg #[.int .u64 ((limb 0 (X) : Nat) : Int), .int .u64 ((limb 1 (X) : Nat) : Int), .int .u64 ((limb 2 (X) : Nat) : Int), .int .u64 ((limb 3 (X) : Nat) : Int)]) (.agg #[.int .u64 ((limb 0 (Y) : Nat) : Int), .int .u64 ((limb 1 (Y) : Nat) : Int), .int .u64 ((limb 2 (Y) : Nat) : Int), .int .u64 ((limb 3 (Y) : Nat) : Int)])).run Tryd.prog w = .ok (decide (X = Y)) w := by rw [eq4_in, eq4N X Y hX hY]
set_option maxHeartbeats 16000000 in
set_option maxRecDepth 20000 in
theorem pt_walk (s q C : Nat) (om : Option Addr) (m cm : Nat) (on : Option Addr) (n cn : Nat) (oc : Option Addr) (l cl be ga : Nat) (F F2 : Nat → Value) (L L2 : Nat → Nat) (X Y : Nat → Nat → Nat) (f : Nat → Nat) (hs : s < 2) (hm : m ≤ 20) (hn : n ≤ 20) (hl : l ≤ 4398046510976) (hL : ∀ i, i < m → L i ≤ 4398046510976) (hL2 : ∀ i, i < n → L2 i ≤ 4398046510976) (zv : Nat → Nat → Nat) (hb : Bool) (hq : 3 ≤ q ∧ q ≤ 5) (hC : 0 < C ∧ C ≤ 500) (hx : zv (C - 1) (2 ^ q - 4) < 115792089237316195423570985008687907853269984665640564039457584007913129639936) (hhb : hb = decide (zv (C - 1) (2 ^ q - 4) = 0 ∨ zv (C - 1) (2 ^ q - 4) = 1))
    (hpr : ∀ (oa ob : Option Addr) (ca cb b : Nat) (Fa Fb : Nat → Value) (w' : World), GlobD w' → 3 ≤ b → Tab w' (.slice oa m ca) m Fa L X → Tab w' (.slice ob n cb) n Fb L2 Y → PurseS w' w'.heap.size b l f → Calls Tryd.prog 14 #[.int .i64 (s : Int), .int .i64 (q : Int), .slice oa m ca, .slice ob n cb, .agg #[.int .u64 ((limb 0 (be) : Nat) : Int), .int .u64 ((limb 1 (be) : Nat) : Int), .int .u64 ((limb 2 (be) : Nat) : Int), .int .u64 ((limb 3 (be) : Nat) : Int)], .agg #[.int .u64 ((limb 0 (ga) : Nat) : Int), .int .u64 ((limb 1 (ga) : Nat) : Int), .int .u64 ((limb 2 (ga) : Nat) : Int), .int .u64 ((limb 3 (ga) : Nat) : Int)], .pointer (some ⟨b, 0, none⟩)] w' fun e w'' => (∃ (T : Nat) (zs : Nat → Value), e = .returned (.tuple #[.slice (some ⟨T, 0, none⟩) C C, .int .i64 0]) ∧ SlT 32 w'' T C zs ∧ ∀ j, j < C → Es w'' (zs j) (2 ^ q) (zv j)) ∧ KU w'.heap.size b w' w'')
    (w : World) (hg : GlobD w) (e1 : Tab w (.slice om m cm) m F L X) (e2 : Tab w (.slice on n cn) n F2 L2 Y) (e3 : Es w (.slice oc l cl) l f)
    (hho : ∀ (T : Nat) (zs : Nat → Value) w', GlobD w' → Below w.heap.size w w' → SlT 32 w' T C zs → (∀ j, j < C → Es w' (zs j) (2 ^ q) (zv j)) → Calls Tryd.prog 17 #[.int .i64 (s : Int), .int .i64 (q : Int), .slice om m cm, .slice on n cn, .slice (some ⟨T, 0, none⟩) C C, .agg #[.int .u64 ((limb 0 (be) : Nat) : Int), .int .u64 ((limb 1 (be) : Nat) : Int), .int .u64 ((limb 2 (be) : Nat) : Int), .int .u64 ((limb 3 (be) : Nat) : Int)], .agg #[.int .u64 ((limb 0 (ga) : Nat) : Int), .int .u64 ((limb 1 (ga) : Nat) : Int), .int .u64 ((limb 2 (ga) : Nat) : Int), .int .u64 ((limb 3 (ga) : Nat) : Int)]] w' fun e w'' => e = .returned (.bool hb) ∧ Below w'.heap.size w' w'') :
    Calls Tryd.prog 5 #[.int .i64 (s : Int), .int .i64 (q : Int), .slice om m cm, .slice on n cn, .agg #[.int .u64 ((limb 0 (be) : Nat) : Int), .int .u64 ((limb 1 (be) : Nat) : Int), .int .u64 ((limb 2 (be) : Nat) : Int), .int .u64 ((limb 3 (be) : Nat) : Int)], .agg #[.int .u64 ((limb 0 (ga) : Nat) : Int), .int .u64 ((limb 1 (ga) : Nat) : Int), .int .u64 ((limb 2 (ga) : Nat) : Int), .int .u64 ((limb 3 (ga) : Nat) : Int)], .slice oc l cl] w fun e w' => e = .returned (.bool true) ∧ Below w.heap.size w w' := by
  have HG : Hid (GlobD w) := hg
  have HAL : Hid (∀ w, GlobD w → _) := fun w hg => alive16_any w hg
  have HE : Hid (Tab w (.slice om m cm) m F L X ∧ Tab w (.slice on n cn) n F2 L2 Y ∧ Es w (.slice oc l cl) l f) := ⟨e1, e2, e3⟩
  have HM : Hid (m ≤ 20 ∧ n ≤ 20 ∧ l ≤ 4398046510976 ∧ (∀ i, i < m → L i ≤ 4398046510976) ∧ ∀ i, i < n → L2 i ≤ 4398046510976) := ⟨hm, hn, hl, hL, hL2⟩
  have hk0 : ¬ (q : Int) < 0 := by omega
  have hP8 : 8 ≤ 2 ^ q ∧ 2 ^ q ≤ 32 := ⟨Nat.pow_le_pow_right (n := 2) (by decide) hq.1, Nat.pow_le_pow_right (n := 2) (by decide) hq.2⟩
  obtain ⟨P, eP⟩ : ∃ P, P = 2 ^ q := ⟨_, rfl⟩
  rw [← eP] at hP8 hpr hho hx hhb
  have e1 : (2 : Int) ^ q = ((P : Nat) : Int) := by rw [eP]; simp
  have hkw : IntKind.i64.wrap ((2 : Int) ^ q) = (P : Int) := by rw [e1]; exact wrap_i64_nat P (by omega)
  have hPw : IntKind.i64.wrap (P : Int) = (P : Int) := wrap_i64_nat P (by omega)
  have hcv : IntKind.u64.wrap (q : Int) = (q : Int) := by rw [IntKind.wrap_u64]; omega
  have hmin : min q 64 = q := by omega
  obtain ⟨u, eu⟩ : ∃ u, u = P - 4 := ⟨_, rfl⟩
  rw [← eu] at hx hhb
  have hu4 : IntKind.i64.wrap ((P : Int) - 4) = (u : Int) := by rw [show (P : Int) - 4 = (u : Int) by omega]; exact wrap_i64_nat u (by omega)
  obtain ⟨c1, ec1⟩ : ∃ c, c = C - 1 := ⟨_, rfl⟩
  rw [← ec1] at hx hhb
  have hc1 : IntKind.i64.wrap ((C : Int) - 1) = (c1 : Int) := by rw [show (C : Int) - 1 = (c1 : Int) by omega]; exact wrap_i64_nat c1 (by omega)
  have hcC : (c1 : Int) < (C : Int) := by omega
  have hc0 : (0 : Int) ≤ (c1 : Int) := by omega
  have hC0 : ¬ (C : Int) = 0 := by omega
  have huP : (u : Int) < (P : Int) := by omega
  have hu0 : (0 : Int) ≤ (u : Int) := by omega
  have HCU : Hid (c1 < C ∧ u < P) := by show _ ∧ _; omega
  obtain ⟨x, ex⟩ : ∃ x, x = zv c1 u := ⟨_, rfl⟩
  rw [← ex] at hx hhb
  have HX : Hid (x < 115792089237316195423570985008687907853269984665640564039457584007913129639936 ∧ x = zv c1 u) := ⟨hx, ex⟩
  have HHB : Hid (hb = decide (x = 0 ∨ x = 1)) := hhb
  have HPR : Hid (∀ (oa ob : Option Addr) (ca cb b : Nat) (Fa Fb : Nat → Value) (w' : World), GlobD w' → _) := hpr
  have HHO : Hid (∀ (T : Nat) (zs : Nat → Value) w', GlobD w' → _) := hho
  clear hx hhb ex hho hC ec1 hq eP eu hP8 e1
  have HD1 : Hid (decide (20 < m) = false) := decide_eq_false (by omega)
  have HD2 : Hid (decide (20 < n) = false) := decide_eq_false (by omega)
  have i0 : ¬ (s : Int) < 0 := by omega
  have i1 : ¬ (1 : Int) < (s : Int) := by omega
  clear hg e2 e3 hm hn hl hL hL2 hs hpr
  go_enter Tryd.func5, Tryd.ntmps5
  go_wp2_with fail
  have hs1 : (w.alloc (.cells #[.int .u64 ((limb 0 (be) : Nat) : Int), .int .u64 ((limb 1 (be) : Nat) : Int), .int .u64 ((limb 2 (be) : Nat) : Int), .int .u64 ((limb 3 (be) : Nat) : Int)] 24)).heap.size = w.heap.size + 1 := Array.size_push ..
  obtain ⟨N11, e0⟩ : ∃ z, z = w.heap.size := ⟨_, rfl⟩
  obtain ⟨N12, e1⟩ : ∃ z, z = N11 + 1 := ⟨_, rfl⟩
  obtain ⟨w1, hw1⟩ : ∃ z : World, z = (w.alloc (.cells #[.int .u64 ((limb 0 (be) : Nat) : Int), .int .u64 ((limb 1 (be) : Nat) : Int), .int .u64 ((limb 2 (be) : Nat) : Int), .int .u64 ((limb 3 (be) : Nat) : Int)] 24)).alloc (.cells #[.int .u64 ((limb 0 (ga) : Nat) : Int), .int .u64 ((limb 1 (ga) : Nat) : Int), .int .u64 ((limb 2 (ga) : Nat) : Int), .int .u64 ((limb 3 (ga) : Nat) : Int)] 24) := ⟨_, rfl⟩
  have b11 : Blk w1 24 N11 (fun i => limb i be) := by rw [hw1]; exact (Blk.newAt _ _ _ (fun i => limb i be) e0).alloc _
  have b12 : Blk w1 24 N12 (fun i => limb i ga) := by rw [hw1]; exact Blk.newAt _ _ _ (fun i => limb i ga) (by rw [e1, e0, hs1])
  have hb1 : Below w.heap.size w w1 := by rw [hw1]; exact bAlloc (bAlloc (Below.refl _ _) _) _
  rw [← hw1]
  try rw [← e0]
  try rw [← e1]
  have l11 : w.heap.size ≤ N11 := by omega
  have l12 : w.heap.size ≤ N12 := by omega
  have n11_12 : N11 ≠ N12 := by omega
  clear hw1 e0 e1 hs1
  have HG1 : Hid (GlobD w1) := HG.out.below hb1
  refine (HAL.out w1 HG1.out).mono ?_
  rintro e w2 ⟨rfl, hbx⟩
  have hb2 := bStep hb1 hbx
  have c11 := b11.belowAll hbx; have c12 := b12.belowAll hbx
  clear b11 b12 hb1 hbx HAL HG1
  go_wp2_with fail
  refine (great16_any om m cm w2).mono ?_
  rintro e w3 ⟨rfl, e3⟩
  rw [e3, HD1.out]
  clear e3 w3
  go_wp2_with fail
  refine (great16_any on n cn w2).mono ?_
  rintro e w3 ⟨rfl, e3⟩
  rw [e3, HD2.out]
  clear e3 w3
  have HG2 : Hid (GlobD w2) := HG.out.below hb2
  have HB2 : Hid (Below w.heap.size w w2) := hb2
  have g11 := c11.cell; have g12 := c12.cell
  have G11 : Rd4 w2 N11 0 be := ⟨g11 0 (by decide), g11 1 (by decide), g11 2 (by decide), g11 3 (by decide)⟩
  have G12 : Rd4 w2 N12 0 ga := ⟨g12 0 (by decide), g12 1 (by decide), g12 2 (by decide), g12 3 (by decide)⟩
  have l11 := c11.lt; have l12 := c12.lt
  clear g11 g12 c11 c12 hb2
  go_upto_region 5 with fail
  refine wp_region_Z (fun w' => Rd4 w' N11 0 be ∧ Rd4 w' N12 0 ga) 99 (by kernel_rfl) ?_
  obtain ⟨wD, hD⟩ : ∃ z : World, z = w2.drew := ⟨_, rfl⟩
  rw [← hD]
  have lowD : Below w2.heap.size w2 wD := by rw [hD]; exact (Below.refl _ _).drew
  clear hD
  have HS0 : Rd4 wD N11 0 be ∧ Rd4 wD N12 0 ga := ⟨G11.below lowD l11, G12.below lowD l12⟩
  refine wpZ_take (i := 0) (v := .int .i64 (s : Int)) 36 rfl rfl (by kernel_rfl) (by kernel_rfl) (by kernel_rfl) (Or.inr (by decide)) (fun _ _ _ h => h) (Or.inl ⟨by rfl, fun w hSw => by go_simp⟩) HS0 ?_
  simp only [Act.put, List.setIfInBounds_toArray]
  try dsimp only [List.set_cons_zero, List.set_cons_succ]
  refine wpZ_take (i := 1) (v := .int .i64 (q : Int)) 37 rfl rfl (by kernel_rfl) (by kernel_rfl) (by kernel_rfl) (Or.inr (by decide)) (fun _ _ _ h => h) (Or.inl ⟨by rfl, fun w hSw => by go_simp⟩) HS0 ?_
  simp only [Act.put, List.setIfInBounds_toArray]
  try dsimp only [List.set_cons_zero, List.set_cons_succ]
  refine wpZ_take (i := 2) (v := .slice om m cm) 38 rfl rfl (by kernel_rfl) (by kernel_rfl) (by kernel_rfl) (Or.inr (by decide)) (fun _ _ _ h => h) (Or.inl ⟨by rfl, fun w hSw => by go_simp⟩) HS0 ?_
  simp only [Act.put, List.setIfInBounds_toArray]
  try dsimp only [List.set_cons_zero, List.set_cons_succ]
  refine wpZ_take (i := 4) (v := .slice on n cn) 40 rfl rfl (by kernel_rfl) (by kernel_rfl) (by kernel_rfl) (Or.inr (by decide)) (fun _ _ _ h => h) (Or.inl ⟨by rfl, fun w hSw => by go_simp⟩) HS0 ?_
  simp only [Act.put, List.setIfInBounds_toArray]
  try dsimp only [List.set_cons_zero, List.set_cons_succ]
  refine wpZ_take (i := 6) (v := .agg #[.int .u64 ((limb 0 (be) : Nat) : Int), .int .u64 ((limb 1 (be) : Nat) : Int), .int .u64 ((limb 2 (be) : Nat) : Int), .int .u64 ((limb 3 (be) : Nat) : Int)]) 42 rfl rfl (by kernel_rfl) (by kernel_rfl) (by kernel_rfl) (Or.inr (by decide)) (fun _ _ _ h => h) (Or.inl ⟨by rfl, fun w hSw => by (obtain ⟨q0, q1, q2, q3⟩ : w.cell? ⟨N11, 0, none⟩ = _ ∧ w.cell? ⟨N11, 1, none⟩ = _ ∧ w.cell? ⟨N11, 2, none⟩ = _ ∧ w.cell? ⟨N11, 3, none⟩ = _ := hSw.1; clear hSw; go_simp)⟩) HS0 ?_
  simp only [Act.put, List.setIfInBounds_toArray]
  try dsimp only [List.set_cons_zero, List.set_cons_succ]
  refine wpZ_take (i := 7) (v := .agg #[.int .u64 ((limb 0 (ga) : Nat) : Int), .int .u64 ((limb 1 (ga) : Nat) : Int), .int .u64 ((limb 2 (ga) : Nat) : Int), .int .u64 ((limb 3 (ga) : Nat) : Int)]) 43 rfl rfl (by kernel_rfl) (by kernel_rfl) (by kernel_rfl) (Or.inr (by decide)) (fun _ _ _ h => h) (Or.inl ⟨by rfl, fun w hSw => by (obtain ⟨q0, q1, q2, q3⟩ : w.cell? ⟨N12, 0, none⟩ = _ ∧ w.cell? ⟨N12, 1, none⟩ = _ ∧ w.cell? ⟨N12, 2, none⟩ = _ ∧ w.cell? ⟨N12, 3, none⟩ = _ := hSw.2; clear hSw; go_simp)⟩) HS0 ?_
  simp only [Act.put, List.setIfInBounds_toArray]
  try dsimp only [List.set_cons_zero, List.set_cons_succ]
  refine wpZ_take (i := 8) (v := .slice oc l cl) 44 rfl rfl (by kernel_rfl) (by kernel_rfl) (by kernel_rfl) (Or.inr (by decide)) (fun _ _ _ h => h) (Or.inl ⟨by rfl, fun w hSw => by go_simp⟩) HS0 ?_
  simp only [Act.put, List.setIfInBounds_toArray]
  try dsimp only [List.set_cons_zero, List.set_cons_succ]
  refine wpZ_one (i := 3) (by kernel_rfl) rfl (fun K hK => ?_)
  go_simp
  refine (copyT_any m cm om F L X (by have := HM.out; omega) (fun i hi => HM.out.2.2.2.1 i hi) wD (HE.out.1.below (bStep HB2.out lowD))).mono ?_
  rintro e wE1 ⟨⟨va, rfl, Fa, ta⟩, hbx1⟩
  have lowwE1 := bStep lowD hbx1
  have SwE1 : Rd4 wE1 N11 0 be ∧ Rd4 wE1 N12 0 ga := ⟨G11.below lowwE1 l11, G12.below lowwE1 l12⟩
  have tA := ta.tab
  clear ta
  obtain ⟨oa, ca, rfl⟩ := tA.shape
  go_wp2_with fail
  refine hK.out _ _ (fun _ => SwE1) ?_
  clear hK K hbx1
  refine wpZ_one (i := 5) (by kernel_rfl) rfl (fun K hK => ?_)
  go_simp
  refine (copyT_any n cn on F2 L2 Y (by have := HM.out; omega) (fun i hi => HM.out.2.2.2.2 i hi) wE1 (HE.out.2.1.below (bStep HB2.out lowwE1))).mono ?_
  rintro e wE2 ⟨⟨vb, rfl, Fb, tb⟩, hbx2⟩
  have lowwE2 := bStep lowwE1 hbx2
  have SwE2 : Rd4 wE2 N11 0 be ∧ Rd4 wE2 N12 0 ga := ⟨G11.below lowwE2 l11, G12.below lowwE2 l12⟩
  have tB := tb.tab
  clear tb
  obtain ⟨ob, cb, rfl⟩ := tB.shape
  have tA := tA.below hbx2
  go_wp2_with fail
  refine hK.out _ _ (fun _ => SwE2) ?_
  clear hK K hbx2
  refine wpZ_one (i := 9) (by kernel_rfl) rfl (fun K hK => ?_)
  go_simp
  refine (copyB_any l _ f HM.out.2.2.1 wE2 (HE.out.2.2.below (bStep HB2.out lowwE2))).mono ?_
  rintro e wE3 ⟨vc, rfl, oc9, hbx3⟩
  have lowwE3 := bStep lowwE2 hbx3
  have SwE3 : Rd4 wE3 N11 0 be ∧ Rd4 wE3 N12 0 ga := ⟨G11.below lowwE3 l11, G12.below lowwE3 l12⟩
  obtain ⟨od, cd, rfl⟩ := (own_Es oc9).shape
  have ec9 := own_Es oc9
  clear oc9
  have tA := tA.below hbx3
  have tB := tB.below hbx3
  go_wp2_with fail
  refine hK.out _ _ (fun _ => SwE3) ?_
  clear hK K hbx3
  refine wpZ_one (i := 10) (by kernel_rfl) rfl (fun K hK => ?_)
  go_simp
  refine (purse_any l _ f HM.out.2.2.1 wE3 ec9).mono ?_
  rintro e wE4 ⟨⟨b, m', cm', om', rfl, lb, em', hone, hpe, hpn⟩, hbx4⟩
  have lowwE4 := bStep lowwE3 hbx4
  have SwE4 : Rd4 wE4 N11 0 be ∧ Rd4 wE4 N12 0 ga := ⟨G11.below lowwE4 l11, G12.below lowwE4 l12⟩
  rw [em'] at hone hpe
  clear em' ec9
  have tA := tA.below hbx4
  have tB := tB.below hbx4
  have HPU : Hid (PurseS wE4 wE4.heap.size b l f) := ⟨om', cm', hone, hpe, hone.lt, fun g o e => ⟨(hpn.out g o e).2, by
    rcases hpe with ⟨h, _⟩ | ⟨b2, o2, c2, hv, _, _, hl, _⟩
    · rw [e] at h; cases h
    · rw [e] at hv; cases hv; exact hl⟩⟩
  have HNB : Hid (N11 ≠ b ∧ N12 ≠ b ∧ w.heap.size ≤ b ∧ 3 ≤ b) := by
    have x5 := HB2.out.size; have x6 := HG.out.ge; have x7 := lowwE3.size
    show _ ∧ _
    omega
  clear hone hpe hpn lb
  go_wp2_with fail
  refine hK.out _ _ (fun _ => SwE4) ?_
  clear hK K hbx4
  refine wpZ_one (i := 11) (by kernel_rfl) rfl (fun K hK => ?_)
  go_simp
  refine (HPR.out oa ob ca cb b Fa Fb wE4 (HG2.out.below lowwE4) HNB.out.2.2.2 tA tB HPU.out).mono ?_
  rintro e wP ⟨hpd, hku⟩
  have hkk := hku.toKept
  have SP : Rd4 wP N11 0 be ∧ Rd4 wP N12 0 ga := ⟨Rd4.kept SwE4.1 (Nat.lt_of_lt_of_le l11 lowwE4.size) HNB.out.1 hkk, Rd4.kept SwE4.2 (Nat.lt_of_lt_of_le l12 lowwE4.size) HNB.out.2.1 hkk⟩
  have hbP := bKept (bStep HB2.out lowwE4) HNB.out.2.2.1 hkk
  have HBP : Hid (Below w.heap.size w wP) := hbP
  clear hku hkk hbP tA tB
  obtain ⟨T, zs, rfl, bT, hzs⟩ := hpd
  go_wp2_with fail
  refine hK.out _ _ (fun _ => SP) ?_
  clear hK K
  refine wpZ_take (i := 12) (v := .tuple #[.slice (some ⟨T, 0, none⟩) C C, .int .i64 0]) 35 rfl rfl (by kernel_rfl) (by kernel_rfl) (by kernel_rfl) (Or.inr (by decide)) (fun _ _ _ h => h) (Or.inl ⟨by rfl, fun w hSw => by go_simp⟩) SP ?_
  simp only [Act.put, List.setIfInBounds_toArray]
  try dsimp only [List.set_cons_zero, List.set_cons_succ]
  refine wpZ_take (i := 13) (v := .slice (some ⟨T, 0, none⟩) C C) 48 rfl rfl (by kernel_rfl) (by kernel_rfl) (by kernel_rfl) (Or.inr (by decide)) (fun _ _ _ h => h) (Or.inl ⟨by rfl, fun w hSw => by go_simp⟩) SP ?_
  simp only [Act.put, List.setIfInBounds_toArray]
  try dsimp only [List.set_cons_zero, List.set_cons_succ]
  refine wpZ_take (i := 14) (v := .int .i64 0) 49 rfl rfl (by kernel_rfl) (by kernel_rfl) (by kernel_rfl) (Or.inr (by decide)) (fun _ _ _ h => h) (Or.inl ⟨by rfl, fun w hSw => by go_simp⟩) SP ?_
  simp only [Act.put, List.setIfInBounds_toArray]
  try dsimp only [List.set_cons_zero, List.set_cons_succ]
  refine wpZ_take (i := 15) (v := .slice (some ⟨T, 0, none⟩) C C) 15 rfl rfl (by kernel_rfl) (by kernel_rfl) (by kernel_rfl) (Or.inr (by decide)) (fun _ _ _ h => h) (Or.inl ⟨by rfl, fun w hSw => by go_simp⟩) SP ?_
  simp only [Act.put, List.setIfInBounds_toArray]
  try dsimp only [List.set_cons_zero, List.set_cons_succ]
  refine wpZ_take (i := 16) (v := .int .i64 0) 16 rfl rfl (by kernel_rfl) (by kernel_rfl) (by kernel_rfl) (Or.inr (by decide)) (fun _ _ _ h => h) (Or.inl ⟨by rfl, fun w hSw => by go_simp⟩) SP ?_
  simp only [Act.put, List.setIfInBounds_toArray]
  try dsimp only [List.set_cons_zero, List.set_cons_succ]
  refine wpZ_done (by kernel_rfl) ?_ _
  have aT := bT.cell c1 HCU.out.1
  have ez := hzs c1 HCU.out.1
  obtain ⟨oz, cz, es⟩ := ez.shape
  rw [es] at aT ez
  rcases ez.open with ⟨_, h0, _⟩ | ⟨zb, zo, rfl, _, _, lz, hzc⟩
  · have := HCU.out; omega
  have z0 := hzc u HCU.out.2 0 (by decide); have z1 := hzc u HCU.out.2 1 (by decide); have z2 := hzc u HCU.out.2 2 (by decide); have z3 := hzc u HCU.out.2 3 (by decide)
  rw [← HX.out.2] at z0 z1 z2 z3
  rw [Nat.add_zero] at z0
  have HT : Hid (SlT 32 wP T C zs ∧ ∀ j, j < C → Es wP (zs j) P (zv j)) := ⟨bT, hzs⟩
  have hG11 := SP.1; have hG12 := SP.2
  have m11 := block_lt_of_cell hG11.1; have m12 := block_lt_of_cell hG12.1
  dsimp only at m11 m12
  clear bT hzs ez es lz hzc SP G11 G12 l11 l12
  go_upto_region 9 with fail
  obtain ⟨wQ, hwQ⟩ : ∃ z : World, z = wP.alloc (.cells #[.int .u64 ((limb 0 (x) : Nat) : Int), .int .u64 ((limb 1 (x) : Nat) : Int), .int .u64 ((limb 2 (x) : Nat) : Int), .int .u64 ((limb 3 (x) : Nat) : Int)] 24) := ⟨_, rfl⟩
  obtain ⟨N17, e17⟩ : ∃ z, z = wP.heap.size := ⟨_, rfl⟩
  have b17 : Blk wQ 24 N17 (fun i => limb i x) := by rw [hwQ]; exact Blk.newAt _ _ _ (fun i => limb i x) e17
  have hbq : Below wP.heap.size wP wQ := by rw [hwQ]; exact bAlloc (Below.refl _ _) _
  rw [← hwQ]
  try rw [← e17]
  clear hwQ e17 z0 z1 z2 z3 aT
  go_upto_region 10 with fail
  obtain ⟨wR, hwR⟩ : ∃ z : World, z = wQ.alloc (.cells #[.int .u64 0, .int .u64 0, .int .u64 0, .int .u64 0] 24) := ⟨_, rfl⟩
  obtain ⟨N18, e18⟩ : ∃ z, z = wQ.heap.size := ⟨_, rfl⟩
  have b18 : Blk wR 24 N18 (fun _ => 0) := by rw [hwR]; exact Blk.newAt _ _ _ (fun _ => 0) e18
  have hbr : Below wQ.heap.size wQ wR := by rw [hwR]; exact bAlloc (Below.refl _ _) _
  have hbR : Below wP.heap.size wP wR := bStep hbq hbr
  have G11 := hG11.below hbR m11; have G12 := hG12.below hbR m12
  have l11 : N11 < wR.heap.size := Nat.lt_of_lt_of_le m11 hbR.size
  have l12 : N12 < wR.heap.size := Nat.lt_of_lt_of_le m12 hbR.size
  have b17R := b17.belowAll hbr
  have g17 := b17R.cell
  have G17 : Rd4 wR N17 0 x := ⟨g17 0 (by decide), g17 1 (by decide), g17 2 (by decide), g17 3 (by decide)⟩
  have l17 := b17R.lt
  have l18 := b18.lt
  have HTR : Hid (∀ w', Below wR.heap.size wR w' → SlT 32 w' T C zs ∧ ∀ j, j < C → Es w' (zs j) P (zv j)) := fun w' h => ⟨(HT.out.1.belowAll hbR).belowAll h, fun j hj => ((HT.out.2 j hj).below hbR).below h⟩
  have HBR : Hid (Below w.heap.size w wR) := bStep HBP.out hbR
  rw [← hwR]
  try rw [← e18]
  clear hwR e18 hbq hbr hbR hG11 hG12 m11 m12 b17 b17R g17 HT
  by_cases h0 : x = 0
  · have e0 : decide (x = 0) = true := decide_eq_true h0
    have HE0 : Hid (∀ w, (Op.equalIn 10000 24 (.agg #[.int .u64 ((limb 0 (x) : Nat) : Int), .int .u64 ((limb 1 (x) : Nat) : Int), .int .u64 ((limb 2 (x) : Nat) : Int), .int .u64 ((limb 3 (x) : Nat) : Int)]) (.agg #[.int .u64 0, .int .u64 0, .int .u64 0, .int .u64 0])).run Tryd.prog w = .ok true w) := fun w => by
      have h := eqlIn x 0 HX.out.1 (by decide) w
      rw [e0] at h
      exact h
    have ehb : hb = true := HHB.out.trans (decide_eq_true (by omega))
    clear e0 h0
    refine wp_region_Z (fun w' => Rd4 w' N11 0 be ∧ Rd4 w' N12 0 ga ∧ Rd4 w' N17 0 x ∧ Blk w' 24 N18 (fun _ => 0)) 99 (by kernel_rfl) ?_
    obtain ⟨wD, hD⟩ : ∃ z : World, z = wR.drew := ⟨_, rfl⟩
    rw [← hD]
    have lowD : Below wR.heap.size wR wD := by rw [hD]; exact (Below.refl _ _).drew
    clear hD
    have HS0 : Rd4 wD N11 0 be ∧ Rd4 wD N12 0 ga ∧ Rd4 wD N17 0 x ∧ Blk wD 24 N18 (fun _ => 0) := ⟨G11.below lowD l11, G12.below lowD l12, G17.below lowD l17, b18.belowAll lowD⟩
    refine wpZ_take (i := 0) (v := .int .i64 (s : Int)) 70 rfl rfl (by kernel_rfl) (by kernel_rfl) (by kernel_rfl) (Or.inr (by decide)) (fun _ _ _ h => h) (Or.inl ⟨by rfl, fun w hSw => by go_simp⟩) HS0 ?_
    simp only [Act.put, List.setIfInBounds_toArray]
    try dsimp only [List.set_cons_zero, List.set_cons_succ]
    refine wpZ_take (i := 1) (v := .int .i64 (q : Int)) 71 rfl rfl (by kernel_rfl) (by kernel_rfl) (by kernel_rfl) (Or.inr (by decide)) (fun _ _ _ h => h) (Or.inl ⟨by rfl, fun w hSw => by go_simp⟩) HS0 ?_
    simp only [Act.put, List.setIfInBounds_toArray]
    try dsimp only [List.set_cons_zero, List.set_cons_succ]
    refine wpZ_take (i := 2) (v := .slice om m cm) 72 rfl rfl (by kernel_rfl) (by kernel_rfl) (by kernel_rfl) (Or.inr (by decide)) (fun _ _ _ h => h) (Or.inl ⟨by rfl, fun w hSw => by go_simp⟩) HS0 ?_
    simp only [Act.put, List.setIfInBounds_toArray]
    try dsimp only [List.set_cons_zero, List.set_cons_succ]
    refine wpZ_take (i := 3) (v := .slice on n cn) 73 rfl rfl (by kernel_rfl) (by kernel_rfl) (by kernel_rfl) (Or.inr (by decide)) (fun _ _ _ h => h) (Or.inl ⟨by rfl, fun w hSw => by go_simp⟩) HS0 ?_
    simp only [Act.put, List.setIfInBounds_toArray]
    try dsimp only [List.set_cons_zero, List.set_cons_succ]
    refine wpZ_take (i := 4) (v := .slice (some ⟨T, 0, none⟩) C C) 74 rfl rfl (by kernel_rfl) (by kernel_rfl) (by kernel_rfl) (Or.inr (by decide)) (fun _ _ _ h => h) (Or.inl ⟨by rfl, fun w hSw => by go_simp⟩) HS0 ?_
    simp only [Act.put, List.setIfInBounds_toArray]
    try dsimp only [List.set_cons_zero, List.set_cons_succ]
    refine wpZ_take (i := 5) (v := .agg #[.int .u64 ((limb 0 (be) : Nat) : Int), .int .u64 ((limb 1 (be) : Nat) : Int), .int .u64 ((limb 2 (be) : Nat) : Int), .int .u64 ((limb 3 (be) : Nat) : Int)]) 75 rfl rfl (by kernel_rfl) (by kernel_rfl) (by kernel_rfl) (Or.inr (by decide)) (fun _ _ _ h => h) (Or.inl ⟨by rfl, fun w hSw => by (obtain ⟨q0, q1, q2, q3⟩ : w.cell? ⟨N11, 0, none⟩ = _ ∧ w.cell? ⟨N11, 1, none⟩ = _ ∧ w.cell? ⟨N11, 2, none⟩ = _ ∧ w.cell? ⟨N11, 3, none⟩ = _ := hSw.1; clear hSw; go_simp)⟩) HS0 ?_
    simp only [Act.put, List.setIfInBounds_toArray]
    try dsimp only [List.set_cons_zero, List.set_cons_succ]
    refine wpZ_take (i := 6) (v := .agg #[.int .u64 ((limb 0 (ga) : Nat) : Int), .int .u64 ((limb 1 (ga) : Nat) : Int), .int .u64 ((limb 2 (ga) : Nat) : Int), .int .u64 ((limb 3 (ga) : Nat) : Int)]) 76 rfl rfl (by kernel_rfl) (by kernel_rfl) (by kernel_rfl) (Or.inr (by decide)) (fun _ _ _ h => h) (Or.inl ⟨by rfl, fun w hSw => by (obtain ⟨q0, q1, q2, q3⟩ : w.cell? ⟨N12, 0, none⟩ = _ ∧ w.cell? ⟨N12, 1, none⟩ = _ ∧ w.cell? ⟨N12, 2, none⟩ = _ ∧ w.cell? ⟨N12, 3, none⟩ = _ := hSw.2.1; clear hSw; go_simp)⟩) HS0 ?_
    simp only [Act.put, List.setIfInBounds_toArray]
    try dsimp only [List.set_cons_zero, List.set_cons_succ]
    refine wpZ_take (i := 8) (v := .agg #[.int .u64 ((limb 0 (x) : Nat) : Int), .int .u64 ((limb 1 (x) : Nat) : Int), .int .u64 ((limb 2 (x) : Nat) : Int), .int .u64 ((limb 3 (x) : Nat) : Int)]) 78 rfl rfl (by kernel_rfl) (by kernel_rfl) (by kernel_rfl) (Or.inr (by decide)) (fun _ _ _ h => h) (Or.inl ⟨by rfl, fun w hSw => by (obtain ⟨q0, q1, q2, q3⟩ : w.cell? ⟨N17, 0, none⟩ = _ ∧ w.cell? ⟨N17, 1, none⟩ = _ ∧ w.cell? ⟨N17, 2, none⟩ = _ ∧ w.cell? ⟨N17, 3, none⟩ = _ := hSw.2.2.1; clear hSw; go_simp)⟩) HS0 ?_
    simp only [Act.put, List.setIfInBounds_toArray]
    try dsimp only [List.set_cons_zero, List.set_cons_succ]
    refine wpZ_take (i := 9) (v := .agg #[.int .u64 0, .int .u64 0, .int .u64 0, .int .u64 0]) 79 rfl rfl (by kernel_rfl) (by kernel_rfl) (by kernel_rfl) (Or.inr (by decide)) (fun _ _ _ h => h) (Or.inl ⟨by rfl, fun w hSw => by (have qq := hSw.2.2.2.cell; clear hSw; go_simp)⟩) HS0 ?_
    simp only [Act.put, List.setIfInBounds_toArray]
    try dsimp only [List.set_cons_zero, List.set_cons_succ]
    refine wpZ_take (i := 10) (v := .bool true) 80 rfl rfl (by kernel_rfl) (by kernel_rfl) (by kernel_rfl) (Or.inr (by decide)) (fun _ _ _ h => h) (Or.inl ⟨by rfl, fun w hSw => by (have hq := HE0.out w; clear hSw; go_simp)⟩) HS0 ?_
    simp only [Act.put, List.setIfInBounds_toArray]
    try dsimp only [List.set_cons_zero, List.set_cons_succ]
    refine wpZ_one (i := 7) (by kernel_rfl) rfl (fun K hK => ?_)
    go_simp
    refine (HHO.out T zs wD (HG.out.below (bStep HBR.out lowD)) (bStep HBR.out lowD) (HTR.out wD lowD).1 (HTR.out wD lowD).2).mono ?_
    rintro e wE1 ⟨rfl, hbx1⟩
    have lowwE1 := bStep lowD hbx1
    have SwE1 : Rd4 wE1 N11 0 be ∧ Rd4 wE1 N12 0 ga ∧ Rd4 wE1 N17 0 x ∧ Blk wE1 24 N18 (fun _ => 0) := ⟨G11.below lowwE1 l11, G12.below lowwE1 l12, G17.below lowwE1 l17, b18.belowAll lowwE1⟩
    go_wp2_with fail
    refine hK.out _ _ (fun _ => SwE1) ?_
    clear hK K hbx1
    refine wpZ_take (i := 11) (v := .bool true) 81 rfl rfl (by kernel_rfl) (by kernel_rfl) (by kernel_rfl) (Or.inr (by decide)) (fun _ _ _ h => h) (Or.inl ⟨by rfl, fun w hSw => by go_simp⟩) SwE1 ?_
    simp only [Act.put, List.setIfInBounds_toArray]
    try dsimp only [List.set_cons_zero, List.set_cons_succ]
    refine wpZ_take (i := 12) (v := undef) 82 rfl rfl (by kernel_rfl) (by kernel_rfl) (by kernel_rfl) (Or.inr (by decide)) (fun _ _ _ h => h) (Or.inr ⟨by rfl, rfl⟩) SwE1 ?_
    simp only [Act.put, List.setIfInBounds_toArray]
    try dsimp only [List.set_cons_zero, List.set_cons_succ]
    refine wpZ_take (i := 13) (v := undef) 83 rfl rfl (by kernel_rfl) (by kernel_rfl) (by kernel_rfl) (Or.inr (by decide)) (fun _ _ _ h => h) (Or.inr ⟨by rfl, rfl⟩) SwE1 ?_
    simp only [Act.put, List.setIfInBounds_toArray]
    try dsimp only [List.set_cons_zero, List.set_cons_succ]
    refine wpZ_take (i := 14) (v := undef) 84 rfl rfl (by kernel_rfl) (by kernel_rfl) (by kernel_rfl) (Or.inr (by decide)) (fun _ _ _ h => h) (Or.inr ⟨by rfl, rfl⟩) SwE1 ?_
    simp only [Act.put, List.setIfInBounds_toArray]
    try dsimp only [List.set_cons_zero, List.set_cons_succ]
    refine wpZ_take (i := 15) (v := .bool true) 85 rfl rfl (by kernel_rfl) (by kernel_rfl) (by kernel_rfl) (Or.inr (by decide)) (fun _ _ _ h => h) (Or.inl ⟨by rfl, fun w hSw => by go_simp⟩) SwE1 ?_
    simp only [Act.put, List.setIfInBounds_toArray]
    try dsimp only [List.set_cons_zero, List.set_cons_succ]
    refine wpZ_take (i := 16) (v := .bool true) 86 rfl rfl (by kernel_rfl) (by kernel_rfl) (by kernel_rfl) (Or.inr (by decide)) (fun _ _ _ h => h) (Or.inl ⟨by rfl, fun w hSw => by (have hq := ehb; clear hSw; subst hq; go_simp)⟩) SwE1 ?_
    simp only [Act.put, List.setIfInBounds_toArray]
    try dsimp only [List.set_cons_zero, List.set_cons_succ]
    refine wpZ_take (i := 17) (v := .bool true) 14 rfl rfl (by kernel_rfl) (by kernel_rfl) (by kernel_rfl) (Or.inr (by decide)) (fun _ _ _ h => h) (Or.inl ⟨by rfl, fun w hSw => by go_simp⟩) SwE1 ?_
    simp only [Act.put, List.setIfInBounds_toArray]
    try dsimp only [List.set_cons_zero, List.set_cons_succ]
    refine wpZ_done (by kernel_rfl) ?_ _
    have hbf := bStep HBR.out lowwE1
    clear G11 G12 G17 b18
    go_wp2
    go_ret
    exact ⟨rfl, hbf⟩
  by_cases h1 : x = 1
  · have e0 : decide (x = 0) = false := decide_eq_false h0
    have HE0 : Hid (∀ w, (Op.equalIn 10000 24 (.agg #[.int .u64 ((limb 0 (x) : Nat) : Int), .int .u64 ((limb 1 (x) : Nat) : Int), .int .u64 ((limb 2 (x) : Nat) : Int), .int .u64 ((limb 3 (x) : Nat) : Int)]) (.agg #[.int .u64 0, .int .u64 0, .int .u64 0, .int .u64 0])).run Tryd.prog w = .ok false w) := fun w => by
      have h := eqlIn x 0 HX.out.1 (by decide) w
      rw [e0] at h
      exact h
    have e1 : decide (x = 1) = true := decide_eq_true h1
    have HE1 : Hid (∀ w, (Op.equalIn 10000 24 (.agg #[.int .u64 ((limb 0 (x) : Nat) : Int), .int .u64 ((limb 1 (x) : Nat) : Int), .int .u64 ((limb 2 (x) : Nat) : Int), .int .u64 ((limb 3 (x) : Nat) : Int)]) (.agg #[.int .u64 1, .int .u64 0, .int .u64 0, .int .u64 0])).run Tryd.prog w = .ok true w) := fun w => by
      have h := eqlIn x 1 HX.out.1 (by decide) w
      rw [e1] at h
      exact h
    clear e1
    have ehb : hb = true := HHB.out.trans (decide_eq_true (by omega))
    clear e0 h0 h1
    refine wp_region_Z (fun w' => Rd4 w' N11 0 be ∧ Rd4 w' N12 0 ga ∧ Rd4 w' N17 0 x ∧ Blk w' 24 N18 (fun _ => 0)) 99 (by kernel_rfl) ?_
    obtain ⟨wD, hD⟩ : ∃ z : World, z = wR.drew := ⟨_, rfl⟩
    rw [← hD]
    have lowD : Below wR.heap.size wR wD := by rw [hD]; exact (Below.refl _ _).drew
    clear hD
    have HS0 : Rd4 wD N11 0 be ∧ Rd4 wD N12 0 ga ∧ Rd4 wD N17 0 x ∧ Blk wD 24 N18 (fun _ => 0) := ⟨G11.below lowD l11, G12.below lowD l12, G17.below lowD l17, b18.belowAll lowD⟩
    refine wpZ_take (i := 0) (v := .int .i64 (s : Int)) 70 rfl rfl (by kernel_rfl) (by kernel_rfl) (by kernel_rfl) (Or.inr (by decide)) (fun _ _ _ h => h) (Or.inl ⟨by rfl, fun w hSw => by go_simp⟩) HS0 ?_
    simp only [Act.put, List.setIfInBounds_toArray]
    try dsimp only [List.set_cons_zero, List.set_cons_succ]
    refine wpZ_take (i := 1) (v := .int .i64 (q : Int)) 71 rfl rfl (by kernel_rfl) (by kernel_rfl) (by kernel_rfl) (Or.inr (by decide)) (fun _ _ _ h => h) (Or.inl ⟨by rfl, fun w hSw => by go_simp⟩) HS0 ?_
    simp only [Act.put, List.setIfInBounds_toArray]
    try dsimp only [List.set_cons_zero, List.set_cons_succ]
    refine wpZ_take (i := 2) (v := .slice om m cm) 72 rfl rfl (by kernel_rfl) (by kernel_rfl) (by kernel_rfl) (Or.inr (by decide)) (fun _ _ _ h => h) (Or.inl ⟨by rfl, fun w hSw => by go_simp⟩) HS0 ?_
    simp only [Act.put, List.setIfInBounds_toArray]
    try dsimp only [List.set_cons_zero, List.set_cons_succ]
    refine wpZ_take (i := 3) (v := .slice on n cn) 73 rfl rfl (by kernel_rfl) (by kernel_rfl) (by kernel_rfl) (Or.inr (by decide)) (fun _ _ _ h => h) (Or.inl ⟨by rfl, fun w hSw => by go_simp⟩) HS0 ?_
    simp only [Act.put, List.setIfInBounds_toArray]
    try dsimp only [List.set_cons_zero, List.set_cons_succ]
    refine wpZ_take (i := 4) (v := .slice (some ⟨T, 0, none⟩) C C) 74 rfl rfl (by kernel_rfl) (by kernel_rfl) (by kernel_rfl) (Or.inr (by decide)) (fun _ _ _ h => h) (Or.inl ⟨by rfl, fun w hSw => by go_simp⟩) HS0 ?_
    simp only [Act.put, List.setIfInBounds_toArray]
    try dsimp only [List.set_cons_zero, List.set_cons_succ]
    refine wpZ_take (i := 5) (v := .agg #[.int .u64 ((limb 0 (be) : Nat) : Int), .int .u64 ((limb 1 (be) : Nat) : Int), .int .u64 ((limb 2 (be) : Nat) : Int), .int .u64 ((limb 3 (be) : Nat) : Int)]) 75 rfl rfl (by kernel_rfl) (by kernel_rfl) (by kernel_rfl) (Or.inr (by decide)) (fun _ _ _ h => h) (Or.inl ⟨by rfl, fun w hSw => by (obtain ⟨q0, q1, q2, q3⟩ : w.cell? ⟨N11, 0, none⟩ = _ ∧ w.cell? ⟨N11, 1, none⟩ = _ ∧ w.cell? ⟨N11, 2, none⟩ = _ ∧ w.cell? ⟨N11, 3, none⟩ = _ := hSw.1; clear hSw; go_simp)⟩) HS0 ?_
    simp only [Act.put, List.setIfInBounds_toArray]
    try dsimp only [List.set_cons_zero, List.set_cons_succ]
    refine wpZ_take (i := 6) (v := .agg #[.int .u64 ((limb 0 (ga) : Nat) : Int), .int .u64 ((limb 1 (ga) : Nat) : Int), .int .u64 ((limb 2 (ga) : Nat) : Int), .int .u64 ((limb 3 (ga) : Nat) : Int)]) 76 rfl rfl (by kernel_rfl) (by kernel_rfl) (by kernel_rfl) (Or.inr (by decide)) (fun _ _ _ h => h) (Or.inl ⟨by rfl, fun w hSw => by (obtain ⟨q0, q1, q2, q3⟩ : w.cell? ⟨N12, 0, none⟩ = _ ∧ w.cell? ⟨N12, 1, none⟩ = _ ∧ w.cell? ⟨N12, 2, none⟩ = _ ∧ w.cell? ⟨N12, 3, none⟩ = _ := hSw.2.1; clear hSw; go_simp)⟩) HS0 ?_
    simp only [Act.put, List.setIfInBounds_toArray]
    try dsimp only [List.set_cons_zero, List.set_cons_succ]
    refine wpZ_take (i := 8) (v := .agg #[.int .u64 ((limb 0 (x) : Nat) : Int), .int .u64 ((limb 1 (x) : Nat) : Int), .int .u64 ((limb 2 (x) : Nat) : Int), .int .u64 ((limb 3 (x) : Nat) : Int)]) 78 rfl rfl (by kernel_rfl) (by kernel_rfl) (by kernel_rfl) (Or.inr (by decide)) (fun _ _ _ h => h) (Or.inl ⟨by rfl, fun w hSw => by (obtain ⟨q0, q1, q2, q3⟩ : w.cell? ⟨N17, 0, none⟩ = _ ∧ w.cell? ⟨N17, 1, none⟩ = _ ∧ w.cell? ⟨N17, 2, none⟩ = _ ∧ w.cell? ⟨N17, 3, none⟩ = _ := hSw.2.2.1; clear hSw; go_simp)⟩) HS0 ?_
    simp only [Act.put, List.setIfInBounds_toArray]
    try dsimp only [List.set_cons_zero, List.set_cons_succ]
    refine wpZ_take (i := 9) (v := .agg #[.int .u64 0, .int .u64 0, .int .u64 0, .int .u64 0]) 79 rfl rfl (by kernel_rfl) (by kernel_rfl) (by kernel_rfl) (Or.inr (by decide)) (fun _ _ _ h => h) (Or.inl ⟨by rfl, fun w hSw => by (have qq := hSw.2.2.2.cell; clear hSw; go_simp)⟩) HS0 ?_
    simp only [Act.put, List.setIfInBounds_toArray]
    try dsimp only [List.set_cons_zero, List.set_cons_succ]
    refine wpZ_take (i := 10) (v := .bool false) 80 rfl rfl (by kernel_rfl) (by kernel_rfl) (by kernel_rfl) (Or.inr (by decide)) (fun _ _ _ h => h) (Or.inl ⟨by rfl, fun w hSw => by (have hq := HE0.out w; clear hSw; go_simp)⟩) HS0 ?_
    simp only [Act.put, List.setIfInBounds_toArray]
    try dsimp only [List.set_cons_zero, List.set_cons_succ]
    refine wpZ_one (i := 7) (by kernel_rfl) rfl (fun K hK => ?_)
    go_simp
    refine (HHO.out T zs wD (HG.out.below (bStep HBR.out lowD)) (bStep HBR.out lowD) (HTR.out wD lowD).1 (HTR.out wD lowD).2).mono ?_
    rintro e wE1 ⟨rfl, hbx1⟩
    have lowwE1 := bStep lowD hbx1
    have SwE1 : Rd4 wE1 N11 0 be ∧ Rd4 wE1 N12 0 ga ∧ Rd4 wE1 N17 0 x ∧ Blk wE1 24 N18 (fun _ => 0) := ⟨G11.below lowwE1 l11, G12.below lowwE1 l12, G17.below lowwE1 l17, b18.belowAll lowwE1⟩
    go_wp2_with fail
    refine hK.out _ _ (fun _ => SwE1) ?_
    clear hK K hbx1
    refine wpZ_take (i := 11) (v := .bool false) 81 rfl rfl (by kernel_rfl) (by kernel_rfl) (by kernel_rfl) (Or.inr (by decide)) (fun _ _ _ h => h) (Or.inl ⟨by rfl, fun w hSw => by go_simp⟩) SwE1 ?_
    simp only [Act.put, List.setIfInBounds_toArray]
    try dsimp only [List.set_cons_zero, List.set_cons_succ]
    refine wpZ_take (i := 12) (v := .agg #[.int .u64 ((limb 0 (x) : Nat) : Int), .int .u64 ((limb 1 (x) : Nat) : Int), .int .u64 ((limb 2 (x) : Nat) : Int), .int .u64 ((limb 3 (x) : Nat) : Int)]) 82 rfl rfl (by kernel_rfl) (by kernel_rfl) (by kernel_rfl) (Or.inr (by decide)) (fun _ _ _ h => h) (Or.inl ⟨by rfl, fun w hSw => by (obtain ⟨q0, q1, q2, q3⟩ : w.cell? ⟨N17, 0, none⟩ = _ ∧ w.cell? ⟨N17, 1, none⟩ = _ ∧ w.cell? ⟨N17, 2, none⟩ = _ ∧ w.cell? ⟨N17, 3, none⟩ = _ := hSw.2.2.1; clear hSw; go_simp)⟩) SwE1 ?_
    simp only [Act.put, List.setIfInBounds_toArray]
    try dsimp only [List.set_cons_zero, List.set_cons_succ]
    refine wpZ_take (i := 13) (v := .agg #[.int .u64 1, .int .u64 0, .int .u64 0, .int .u64 0]) 83 rfl rfl (by kernel_rfl) (by kernel_rfl) (by kernel_rfl) (Or.inr (by decide)) (fun _ _ _ h => h) (Or.inl ⟨by rfl, fun w hSw => by go_simp⟩) SwE1 ?_
    simp only [Act.put, List.setIfInBounds_toArray]
    try dsimp only [List.set_cons_zero, List.set_cons_succ]
    refine wpZ_take (i := 14) (v := .bool true) 84 rfl rfl (by kernel_rfl) (by kernel_rfl) (by kernel_rfl) (Or.inr (by decide)) (fun _ _ _ h => h) (Or.inl ⟨by rfl, fun w hSw => by (have hq := HE1.out w; clear hSw; go_simp)⟩) SwE1 ?_
    simp only [Act.put, List.setIfInBounds_toArray]
    try dsimp only [List.set_cons_zero, List.set_cons_succ]
    refine wpZ_take (i := 15) (v := .bool true) 85 rfl rfl (by kernel_rfl) (by kernel_rfl) (by kernel_rfl) (Or.inr (by decide)) (fun _ _ _ h => h) (Or.inl ⟨by rfl, fun w hSw => by go_simp⟩) SwE1 ?_
    simp only [Act.put, List.setIfInBounds_toArray]
    try dsimp only [List.set_cons_zero, List.set_cons_succ]
    refine wpZ_take (i := 16) (v := .bool true) 86 rfl rfl (by kernel_rfl) (by kernel_rfl) (by kernel_rfl) (Or.inr (by decide)) (fun _ _ _ h => h) (Or.inl ⟨by rfl, fun w hSw => by (have hq := ehb; clear hSw; subst hq; go_simp)⟩) SwE1 ?_
    simp only [Act.put, List.setIfInBounds_toArray]
    try dsimp only [List.set_cons_zero, List.set_cons_succ]
    refine wpZ_take (i := 17) (v := .bool true) 14 rfl rfl (by kernel_rfl) (by kernel_rfl) (by kernel_rfl) (Or.inr (by decide)) (fun _ _ _ h => h) (Or.inl ⟨by rfl, fun w hSw => by go_simp⟩) SwE1 ?_
    simp only [Act.put, List.setIfInBounds_toArray]
    try dsimp only [List.set_cons_zero, List.set_cons_succ]
    refine wpZ_done (by kernel_rfl) ?_ _
    have hbf := bStep HBR.out lowwE1
    clear G11 G12 G17 b18
    go_wp2
    go_ret
    exact ⟨rfl, hbf⟩
  · have e0 : decide (x = 0) = false := decide_eq_false h0
    have HE0 : Hid (∀ w, (Op.equalIn 10000 24 (.agg #[.int .u64 ((limb 0 (x) : Nat) : Int), .int .u64 ((limb 1 (x) : Nat) : Int), .int .u64 ((limb 2 (x) : Nat) : Int), .int .u64 ((limb 3 (x) : Nat) : Int)]) (.agg #[.int .u64 0, .int .u64 0, .int .u64 0, .int .u64 0])).run Tryd.prog w = .ok false w) := fun w => by
      have h := eqlIn x 0 HX.out.1 (by decide) w
      rw [e0] at h
      exact h
    have e1 : decide (x = 1) = false := decide_eq_false h1
    have HE1 : Hid (∀ w, (Op.equalIn 10000 24 (.agg #[.int .u64 ((limb 0 (x) : Nat) : Int), .int .u64 ((limb 1 (x) : Nat) : Int), .int .u64 ((limb 2 (x) : Nat) : Int), .int .u64 ((limb 3 (x) : Nat) : Int)]) (.agg #[.int .u64 1, .int .u64 0, .int .u64 0, .int .u64 0])).run Tryd.prog w = .ok false w) := fun w => by
      have h := eqlIn x 1 HX.out.1 (by decide) w
      rw [e1] at h
      exact h
    clear e1
    have ehb : hb = false := HHB.out.trans (decide_eq_false (by omega))
    clear e0 h0 h1
    refine wp_region_Z (fun w' => Rd4 w' N11 0 be ∧ Rd4 w' N12 0 ga ∧ Rd4 w' N17 0 x ∧ Blk w' 24 N18 (fun _ => 0)) 99 (by kernel_rfl) ?_
    obtain ⟨wD, hD⟩ : ∃ z : World, z = wR.drew := ⟨_, rfl⟩
    rw [← hD]
    have lowD : Below wR.heap.size wR wD := by rw [hD]; exact (Below.refl _ _).drew
    clear hD
    have HS0 : Rd4 wD N11 0 be ∧ Rd4 wD N12 0 ga ∧ Rd4 wD N17 0 x ∧ Blk wD 24 N18 (fun _ => 0) := ⟨G11.below lowD l11, G12.below lowD l12, G17.below lowD l17, b18.belowAll lowD⟩
    refine wpZ_take (i := 0) (v := .int .i64 (s : Int)) 70 rfl rfl (by kernel_rfl) (by kernel_rfl) (by kernel_rfl) (Or.inr (by decide)) (fun _ _ _ h => h) (Or.inl ⟨by rfl, fun w hSw => by go_simp⟩) HS0 ?_
    simp only [Act.put, List.setIfInBounds_toArray]
    try dsimp only [List.set_cons_zero, List.set_cons_succ]
    refine wpZ_take (i := 1) (v := .int .i64 (q : Int)) 71 rfl rfl (by kernel_rfl) (by kernel_rfl) (by kernel_rfl) (Or.inr (by decide)) (fun _ _ _ h => h) (Or.inl ⟨by rfl, fun w hSw => by go_simp⟩) HS0 ?_
    simp only [Act.put, List.setIfInBounds_toArray]
    try dsimp only [List.set_cons_zero, List.set_cons_succ]
    refine wpZ_take (i := 2) (v := .slice om m cm) 72 rfl rfl (by kernel_rfl) (by kernel_rfl) (by kernel_rfl) (Or.inr (by decide)) (fun _ _ _ h => h) (Or.inl ⟨by rfl, fun w hSw => by go_simp⟩) HS0 ?_
    simp only [Act.put, List.setIfInBounds_toArray]
    try dsimp only [List.set_cons_zero, List.set_cons_succ]
    refine wpZ_take (i := 3) (v := .slice on n cn) 73 rfl rfl (by kernel_rfl) (by kernel_rfl) (by kernel_rfl) (Or.inr (by decide)) (fun _ _ _ h => h) (Or.inl ⟨by rfl, fun w hSw => by go_simp⟩) HS0 ?_
    simp only [Act.put, List.setIfInBounds_toArray]
    try dsimp only [List.set_cons_zero, List.set_cons_succ]
    refine wpZ_take (i := 4) (v := .slice (some ⟨T, 0, none⟩) C C) 74 rfl rfl (by kernel_rfl) (by kernel_rfl) (by kernel_rfl) (Or.inr (by decide)) (fun _ _ _ h => h) (Or.inl ⟨by rfl, fun w hSw => by go_simp⟩) HS0 ?_
    simp only [Act.put, List.setIfInBounds_toArray]
    try dsimp only [List.set_cons_zero, List.set_cons_succ]
    refine wpZ_take (i := 5) (v := .agg #[.int .u64 ((limb 0 (be) : Nat) : Int), .int .u64 ((limb 1 (be) : Nat) : Int), .int .u64 ((limb 2 (be) : Nat) : Int), .int .u64 ((limb 3 (be) : Nat) : Int)]) 75 rfl rfl (by kernel_rfl) (by kernel_rfl) (by kernel_rfl) (Or.inr (by decide)) (fun _ _ _ h => h) (Or.inl ⟨by rfl, fun w hSw => by (obtain ⟨q0, q1, q2, q3⟩ : w.cell? ⟨N11, 0, none⟩ = _ ∧ w.cell? ⟨N11, 1, none⟩ = _ ∧ w.cell? ⟨N11, 2, none⟩ = _ ∧ w.cell? ⟨N11, 3, none⟩ = _ := hSw.1; clear hSw; go_simp)⟩) HS0 ?_
    simp only [Act.put, List.setIfInBounds_toArray]
    try dsimp only [List.set_cons_zero, List.set_cons_succ]
    refine wpZ_take (i := 6) (v := .agg #[.int .u64 ((limb 0 (ga) : Nat) : Int), .int .u64 ((limb 1 (ga) : Nat) : Int), .int .u64 ((limb 2 (ga) : Nat) : Int), .int .u64 ((limb 3 (ga) : Nat) : Int)]) 76 rfl rfl (by kernel_rfl) (by kernel_rfl) (by kernel_rfl) (Or.inr (by decide)) (fun _ _ _ h => h) (Or.inl ⟨by rfl, fun w hSw => by (obtain ⟨q0, q1, q2, q3⟩ : w.cell? ⟨N12, 0, none⟩ = _ ∧ w.cell? ⟨N12, 1, none⟩ = _ ∧ w.cell? ⟨N12, 2, none⟩ = _ ∧ w.cell? ⟨N12, 3, none⟩ = _ := hSw.2.1; clear hSw; go_simp)⟩) HS0 ?_
    simp only [Act.put, List.setIfInBounds_toArray]
    try dsimp only [List.set_cons_zero, List.set_cons_succ]
    refine wpZ_take (i := 8) (v := .agg #[.int .u64 ((limb 0 (x) : Nat) : Int), .int .u64 ((limb 1 (x) : Nat) : Int), .int .u64 ((limb 2 (x) : Nat) : Int), .int .u64 ((limb 3 (x) : Nat) : Int)]) 78 rfl rfl (by kernel_rfl) (by kernel_rfl) (by kernel_rfl) (Or.inr (by decide)) (fun _ _ _ h => h) (Or.inl ⟨by rfl, fun w hSw => by (obtain ⟨q0, q1, q2, q3⟩ : w.cell? ⟨N17, 0, none⟩ = _ ∧ w.cell? ⟨N17, 1, none⟩ = _ ∧ w.cell? ⟨N17, 2, none⟩ = _ ∧ w.cell? ⟨N17, 3, none⟩ = _ := hSw.2.2.1; clear hSw; go_simp)⟩) HS0 ?_
    simp only [Act.put, List.setIfInBounds_toArray]
    try dsimp only [List.set_cons_zero, List.set_cons_succ]
    refine wpZ_take (i := 9) (v := .agg #[.int .u64 0, .int .u64 0, .int .u64 0, .int .u64 0]) 79 rfl rfl (by kernel_rfl) (by kernel_rfl) (by kernel_rfl) (Or.inr (by decide)) (fun _ _ _ h => h) (Or.inl ⟨by rfl, fun w hSw => by (have qq := hSw.2.2.2.cell; clear hSw; go_simp)⟩) HS0 ?_
    simp only [Act.put, List.setIfInBounds_toArray]
    try dsimp only [List.set_cons_zero, List.set_cons_succ]
    refine wpZ_take (i := 10) (v := .bool false) 80 rfl rfl (by kernel_rfl) (by kernel_rfl) (by kernel_rfl) (Or.inr (by decide)) (fun _ _ _ h => h) (Or.inl ⟨by rfl, fun w hSw => by (have hq := HE0.out w; clear hSw; go_simp)⟩) HS0 ?_
    simp only [Act.put, List.setIfInBounds_toArray]
    try dsimp only [List.set_cons_zero, List.set_cons_succ]
    refine wpZ_one (i := 7) (by kernel_rfl) rfl (fun K hK => ?_)
    go_simp
    refine (HHO.out T zs wD (HG.out.below (bStep HBR.out lowD)) (bStep HBR.out lowD) (HTR.out wD lowD).1 (HTR.out wD lowD).2).mono ?_
    rintro e wE1 ⟨rfl, hbx1⟩
    have lowwE1 := bStep lowD hbx1
    have SwE1 : Rd4 wE1 N11 0 be ∧ Rd4 wE1 N12 0 ga ∧ Rd4 wE1 N17 0 x ∧ Blk wE1 24 N18 (fun _ => 0) := ⟨G11.below lowwE1 l11, G12.below lowwE1 l12, G17.below lowwE1 l17, b18.belowAll lowwE1⟩
    go_wp2_with fail
    refine hK.out _ _ (fun _ => SwE1) ?_
    clear hK K hbx1
    refine wpZ_take (i := 11) (v := .bool false) 81 rfl rfl (by kernel_rfl) (by kernel_rfl) (by kernel_rfl) (Or.inr (by decide)) (fun _ _ _ h => h) (Or.inl ⟨by rfl, fun w hSw => by go_simp⟩) SwE1 ?_
    simp only [Act.put, List.setIfInBounds_toArray]
    try dsimp only [List.set_cons_zero, List.set_cons_succ]
    refine wpZ_take (i := 12) (v := .agg #[.int .u64 ((limb 0 (x) : Nat) : Int), .int .u64 ((limb 1 (x) : Nat) : Int), .int .u64 ((limb 2 (x) : Nat) : Int), .int .u64 ((limb 3 (x) : Nat) : Int)]) 82 rfl rfl (by kernel_rfl) (by kernel_rfl) (by kernel_rfl) (Or.inr (by decide)) (fun _ _ _ h => h) (Or.inl ⟨by rfl, fun w hSw => by (obtain ⟨q0, q1, q2, q3⟩ : w.cell? ⟨N17, 0, none⟩ = _ ∧ w.cell? ⟨N17, 1, none⟩ = _ ∧ w.cell? ⟨N17, 2, none⟩ = _ ∧ w.cell? ⟨N17, 3, none⟩ = _ := hSw.2.2.1; clear hSw; go_simp)⟩) SwE1 ?_
    simp only [Act.put, List.setIfInBounds_toArray]
    try dsimp only [List.set_cons_zero, List.set_cons_succ]
    refine wpZ_take (i := 13) (v := .agg #[.int .u64 1, .int .u64 0, .int .u64 0, .int .u64 0]) 83 rfl rfl (by kernel_rfl) (by kernel_rfl) (by kernel_rfl) (Or.inr (by decide)) (fun _ _ _ h => h) (Or.inl ⟨by rfl, fun w hSw => by go_simp⟩) SwE1 ?_
    simp only [Act.put, List.setIfInBounds_toArray]
    try dsimp only [List.set_cons_zero, List.set_cons_succ]
    refine wpZ_take (i := 14) (v := .bool false) 84 rfl rfl (by kernel_rfl) (by kernel_rfl) (by kernel_rfl) (Or.inr (by decide)) (fun _ _ _ h => h) (Or.inl ⟨by rfl, fun w hSw => by (have hq := HE1.out w; clear hSw; go_simp)⟩) SwE1 ?_
    simp only [Act.put, List.setIfInBounds_toArray]
    try dsimp only [List.set_cons_zero, List.set_cons_succ]
    refine wpZ_take (i := 15) (v := .bool false) 85 rfl rfl (by kernel_rfl) (by kernel_rfl) (by kernel_rfl) (Or.inr (by decide)) (fun _ _ _ h => h) (Or.inl ⟨by rfl, fun w hSw => by go_simp⟩) SwE1 ?_
    simp only [Act.put, List.setIfInBounds_toArray]
    try dsimp only [List.set_cons_zero, List.set_cons_succ]
    refine wpZ_take (i := 16) (v := .bool true) 86 rfl rfl (by kernel_rfl) (by kernel_rfl) (by kernel_rfl) (Or.inr (by decide)) (fun _ _ _ h => h) (Or.inl ⟨by rfl, fun w hSw => by (have hq := ehb; clear hSw; subst hq; go_simp)⟩) SwE1 ?_
    simp only [Act.put, List.setIfInBounds_toArray]
    try dsimp only [List.set_cons_zero, List.set_cons_succ]
    refine wpZ_take (i := 17) (v := .bool true) 14 rfl rfl (by kernel_rfl) (by kernel_rfl) (by kernel_rfl) (Or.inr (by decide)) (fun _ _ _ h => h) (Or.inl ⟨by rfl, fun w hSw => by go_simp⟩) SwE1 ?_
    simp only [Act.put, List.setIfInBounds_toArray]
    try dsimp only [List.set_cons_zero, List.set_cons_succ]
    refine wpZ_done (by kernel_rfl) ?_ _
    have hbf := bStep HBR.out lowwE1
    clear G11 G12 G17 b18
    go_wp2
    go_ret
    exact ⟨rfl, hbf⟩
end Go.Proofs.YtoipnjfajandmaaDoor

