/- LookupProducts' walk. -/
import Derived.Test.YteheloagjkengaaDoorLPC
import Derived.Test.YteheloagjkengaaDoorL1B
namespace Go.Proofs.YteheloagjkengaaDoor
open Go.RowKit

/-- A case's values. -/
def CsV (cc : Array Value) (v0 v1 v2 v3 v6 : Value) (be ga : Nat) : Prop := cc.size = 13 ∧ cc[0]? = some v0 ∧ cc[1]? = some v1 ∧ cc[2]? = some v2 ∧ cc[3]? = some v3 ∧ cc[12]? = some v6 ∧ El cc 4 be ∧ El cc 8 ga
theorem KU.toKept {b : Nat} {w w' : World} (h : KU w.heap.size b w w') : Kept b w w' := ⟨h.1, h.2.1, h.2.2.1, h.2.2.2.1, fun k hk hne => h.2.2.2.2 k hk hne⟩
theorem PurseS.mono {w : World} {base base2 b m : Nat} {f : Nat → Nat} (h : PurseS w base b m f) (hb : base ≤ base2) : PurseS w base2 b m f := by
  obtain ⟨oa, cm, h1, h2, h3, h4⟩ := h
  exact ⟨oa, cm, h1, h2, Nat.lt_of_lt_of_le h3 hb, fun g o e => ⟨(h4 g o e).1, Nat.lt_of_lt_of_le (h4 g o e).2 hb⟩⟩
theorem PurseS.step {w w' : World} {b m : Nat} {f : Nat → Nat} (h : PurseS w w.heap.size b m f) (hb : Below w.heap.size w w') : PurseS w' w'.heap.size b m f := (h.below hb).mono hb.size
theorem Es.ne {w : World} {v : Value} {n g : Nat} {f : Nat → Nat} (h : Es w v n f) (hg : w.heap.size ≤ g) : ∀ b o m c, v = .slice (some ⟨b, o, none⟩) m c → b ≠ g := by
  rintro b o m c rfl
  rcases h with ⟨h, _⟩ | ⟨b2, o2, c2, hv, _, _, hl, _⟩
  · cases h
  · cases hv
    omega
theorem sizCs : (Tryd.prog.info? 27).map (·.size) = some 13 := by kernel_rfl
set_option maxHeartbeats 2000000 in
set_option maxRecDepth 20000 in
theorem lp_skip (si k : Int) (cc : Array Value) (be ga : Nat) (o0 : Option Addr) (n0 c0 : Nat) (o1 : Option Addr) (n1 c1 : Nat) (o2 : Option Addr) (n2 c2 : Nat) (o3 : Option Addr) (n3 c3 : Nat) (o6 : Option Addr) (m c6 : Nat) (hC : CsV cc (.slice o0 n0 c0) (.slice o1 n1 c1) (.slice o2 n2 c2) (.slice o3 n3 c3) (.slice o6 m c6) be ga) (hn : n0 ≤ 4398046510976 ∧ n1 ≤ 4398046510976 ∧ n2 ≤ 4398046510976 ∧ n3 ≤ 4398046510976) (h3 : 300 < n0 + n1 + n2 + n3) (w : World) (hg : Glob w) :
    Calls Tryd.prog 3 #[.int .i64 si, .int .i64 k, .agg cc] w fun e w' => e = .returned (.bool true) ∧ Below w.heap.size w w' := by
  have HG : Hid (Glob w) := hg
  have HAL : Hid (∀ w, Glob w → _) := fun w hg => alive17_any w hg
  have HCV : Hid (CsV cc (.slice o0 n0 c0) (.slice o1 n1 c1) (.slice o2 n2 c2) (.slice o3 n3 c3) (.slice o6 m c6) be ga) := hC
  obtain ⟨s1, es1⟩ : ∃ z, z = n0 + n1 := ⟨_, rfl⟩
  obtain ⟨s2, es2⟩ : ∃ z, z = s1 + n2 := ⟨_, rfl⟩
  obtain ⟨s3, es3⟩ : ∃ z, z = s2 + n3 := ⟨_, rfl⟩
  have hw1 : IntKind.i64.wrap ((n0 : Int) + (n1 : Int)) = (s1 : Int) := by rw [show (n0 : Int) + (n1 : Int) = ((s1 : Nat) : Int) from by omega]; exact wrap_i64_nat s1 (by omega)
  have hw2 : IntKind.i64.wrap ((s1 : Int) + (n2 : Int)) = (s2 : Int) := by rw [show (s1 : Int) + (n2 : Int) = ((s2 : Nat) : Int) from by omega]; exact wrap_i64_nat s2 (by omega)
  have hw3 : IntKind.i64.wrap ((s2 : Int) + (n3 : Int)) = (s3 : Int) := by rw [show (s2 : Int) + (n3 : Int) = ((s3 : Nat) : Int) from by omega]; exact wrap_i64_nat s3 (by omega)
  have hs3 : (300 : Int) < (s3 : Int) := by omega
  clear hg hC es1 es2 es3 hn h3
  go_enter Tryd.func3, Tryd.ntmps3
  go_wp2_with fail
  obtain ⟨N5, e0⟩ : ∃ z, z = w.heap.size := ⟨_, rfl⟩
  obtain ⟨w1, hw1⟩ : ∃ z : World, z = w.alloc (.cells cc 27) := ⟨_, rfl⟩
  have b5 : Lay w1 27 N5 cc := by rw [hw1]; exact Lay.newAt _ _ _ e0
  have hb1 : Below w.heap.size w w1 := by rw [hw1]; exact bAlloc (Below.refl _ _) _
  rw [← hw1]
  try rw [← e0]
  have l5 : w.heap.size ≤ N5 := by omega
  clear hw1 e0 
  have HG1 : Hid (Glob w1) := HG.out.below hb1
  refine (HAL.out w1 HG1.out).mono ?_
  rintro e w2 ⟨rfl, hbx⟩
  have hb2 := bStep hb1 hbx
  have d5 := b5.belowAll hbx
  clear b5 hb1 hbx HAL HG1
  have q0 := d5.at HCV.out.2.1
  have q1 := d5.at HCV.out.2.2.1
  have q2 := d5.at HCV.out.2.2.2.1
  have q3 := d5.at HCV.out.2.2.2.2.1
  go_wp2
  go_ret
  exact ⟨rfl, hb2⟩
set_option maxHeartbeats 8000000 in
set_option maxRecDepth 20000 in
theorem lp_walk (si k : Int) (cc : Array Value) (be ga : Nat) (o0 : Option Addr) (n0 c0 : Nat) (o1 : Option Addr) (n1 c1 : Nat) (o2 : Option Addr) (n2 c2 : Nat) (o3 : Option Addr) (n3 c3 : Nat) (o6 : Option Addr) (m c6 : Nat) (F0 F1 F2 F3 f Fz : Nat → Nat) (er : Int) (nz : Nat) (hC : CsV cc (.slice o0 n0 c0) (.slice o1 n1 c1) (.slice o2 n2 c2) (.slice o3 n3 c3) (.slice o6 m c6) be ga) (h3 : n0 + n1 + n2 + n3 ≤ 300) (hm : m ≤ 4398046510976) (hnz : nz ≤ 1000) (hFz : ∀ i, i < nz → Fz i < 115792089237316195423570985008687907853269984665640564039457584007913129639936)
    (hF0 : ∀ i, i < n0 → F0 i < 115792089237316195423570985008687907853269984665640564039457584007913129639936) (hF1 : ∀ i, i < n1 → F1 i < 115792089237316195423570985008687907853269984665640564039457584007913129639936) (hf : ∀ i, i < m → f i < 115792089237316195423570985008687907853269984665640564039457584007913129639936)
    (hp : ∀ (oa ob oc od : Option Addr) (ca cb cd ce b : Nat) w, Glob w → 2 ≤ b → Es w (.slice oa n0 ca) n0 F0 → Es w (.slice ob n1 cb) n1 F1 → Es w (.slice oc n2 cd) n2 F2 → Es w (.slice od n3 ce) n3 F3 → PurseS w w.heap.size b m f →
      Calls Tryd.prog 7 #[.int .i64 si, .int .i64 k, .slice oa n0 ca, .slice ob n1 cb, .slice oc n2 cd, .slice od n3 ce, .agg #[.int .u64 ((limb 0 (be) : Nat) : Int), .int .u64 ((limb 1 (be) : Nat) : Int), .int .u64 ((limb 2 (be) : Nat) : Int), .int .u64 ((limb 3 (be) : Nat) : Int)], .agg #[.int .u64 ((limb 0 (ga) : Nat) : Int), .int .u64 ((limb 1 (ga) : Nat) : Int), .int .u64 ((limb 2 (ga) : Nat) : Int), .int .u64 ((limb 3 (ga) : Nat) : Int)], .pointer (some ⟨b, 0, none⟩)] w fun e w' => (∃ z, e = .returned (.tuple #[z, .int .i64 er]) ∧ Es w' z nz Fz ∧ (er = 0 → PurseS w' w'.heap.size b (m - 3) (fun i => f (i + 3)))) ∧ KU w.heap.size b w w')
    (hr : ∀ w, Es w (.slice o0 n0 c0) n0 F0 → Es w (.slice o1 n1 c1) n1 F1 → Es w (.slice o2 n2 c2) n2 F2 → Es w (.slice o3 n3 c3) n3 F3 → Es w (.slice o6 m c6) m f →
      Calls Tryd.prog 8 #[.int .i64 si, .int .i64 k, .slice o0 n0 c0, .slice o1 n1 c1, .slice o2 n2 c2, .slice o3 n3 c3, .agg #[.int .u64 ((limb 0 (be) : Nat) : Int), .int .u64 ((limb 1 (be) : Nat) : Int), .int .u64 ((limb 2 (be) : Nat) : Int), .int .u64 ((limb 3 (be) : Nat) : Int)], .agg #[.int .u64 ((limb 0 (ga) : Nat) : Int), .int .u64 ((limb 1 (ga) : Nat) : Int), .int .u64 ((limb 2 (ga) : Nat) : Int), .int .u64 ((limb 3 (ga) : Nat) : Int)], .agg #[.slice o6 m c6, .int .i64 0]] w fun e w' => (∃ (j : Int) (z : Value), e = .returned (.tuple #[.agg #[.slice o6 m c6, .int .i64 j], z, .int .i64 er]) ∧ Es w' z nz Fz ∧ (er = 0 → j = 3 ∧ 3 ≤ m)) ∧ Below w.heap.size w w')
    (w : World) (hg : Glob w) (hE0 : Es w (.slice o0 n0 c0) n0 F0) (hE1 : Es w (.slice o1 n1 c1) n1 F1) (hE2 : Es w (.slice o2 n2 c2) n2 F2) (hE3 : Es w (.slice o3 n3 c3) n3 F3) (hE6 : Es w (.slice o6 m c6) m f) :
    Calls Tryd.prog 3 #[.int .i64 si, .int .i64 k, .agg cc] w fun e w' => e = .returned (.bool true) ∧ Below w.heap.size w w' := by
  have HG : Hid (Glob w) := hg
  have HAL : Hid (∀ w, Glob w → _) := fun w hg => alive17_any w hg
  have HCV : Hid (CsV cc (.slice o0 n0 c0) (.slice o1 n1 c1) (.slice o2 n2 c2) (.slice o3 n3 c3) (.slice o6 m c6) be ga) := hC
  have HP : Hid (∀ (oa ob oc od : Option Addr) (ca cb cd ce b : Nat) w, Glob w → _) := hp
  have HR : Hid (∀ w, Es w (.slice o0 n0 c0) n0 F0 → _) := hr
  have HE : Hid (Es w (.slice o0 n0 c0) n0 F0 ∧ Es w (.slice o1 n1 c1) n1 F1 ∧ Es w (.slice o2 n2 c2) n2 F2 ∧ Es w (.slice o3 n3 c3) n3 F3 ∧ Es w (.slice o6 m c6) m f) := ⟨hE0, hE1, hE2, hE3, hE6⟩
  have HM : Hid ((∀ i, i < n0 → F0 i < 115792089237316195423570985008687907853269984665640564039457584007913129639936) ∧ (∀ i, i < n1 → F1 i < 115792089237316195423570985008687907853269984665640564039457584007913129639936) ∧ (∀ i, i < nz → Fz i < 115792089237316195423570985008687907853269984665640564039457584007913129639936) ∧ (∀ i, i < m → f i < 115792089237316195423570985008687907853269984665640564039457584007913129639936) ∧ m ≤ 4398046510976 ∧ nz ≤ 1000) := ⟨hF0, hF1, hFz, hf, hm, hnz⟩
  obtain ⟨s1, es1⟩ : ∃ z, z = n0 + n1 := ⟨_, rfl⟩
  obtain ⟨s2, es2⟩ : ∃ z, z = s1 + n2 := ⟨_, rfl⟩
  obtain ⟨s3, es3⟩ : ∃ z, z = s2 + n3 := ⟨_, rfl⟩
  have hw1 : IntKind.i64.wrap ((n0 : Int) + (n1 : Int)) = (s1 : Int) := by rw [show (n0 : Int) + (n1 : Int) = ((s1 : Nat) : Int) from by omega]; exact wrap_i64_nat s1 (by omega)
  have hw2 : IntKind.i64.wrap ((s1 : Int) + (n2 : Int)) = (s2 : Int) := by rw [show (s1 : Int) + (n2 : Int) = ((s2 : Nat) : Int) from by omega]; exact wrap_i64_nat s2 (by omega)
  have hw3 : IntKind.i64.wrap ((s2 : Int) + (n3 : Int)) = (s3 : Int) := by rw [show (s2 : Int) + (n3 : Int) = ((s3 : Nat) : Int) from by omega]; exact wrap_i64_nat s3 (by omega)
  have hs3 : ¬ (300 : Int) < (s3 : Int) := by omega
  have HN : Hid (n0 ≤ 300 ∧ n1 ≤ 300 ∧ n2 ≤ 300 ∧ n3 ≤ 300) := by show _ ∧ _; omega
  clear hg hC es1 es2 es3 hp hr hE0 hE1 hE2 hE3 hE6 hF0 hF1 hf hFz h3 hm hnz
  go_enter Tryd.func3, Tryd.ntmps3
  go_wp2_with fail
  obtain ⟨N5, e0⟩ : ∃ z, z = w.heap.size := ⟨_, rfl⟩
  obtain ⟨w1, hw1⟩ : ∃ z : World, z = w.alloc (.cells cc 27) := ⟨_, rfl⟩
  have b5 : Lay w1 27 N5 cc := by rw [hw1]; exact Lay.newAt _ _ _ e0
  have hb1 : Below w.heap.size w w1 := by rw [hw1]; exact bAlloc (Below.refl _ _) _
  rw [← hw1]
  try rw [← e0]
  have l5 : w.heap.size ≤ N5 := by omega
  clear hw1 e0 
  have HG1 : Hid (Glob w1) := HG.out.below hb1
  refine (HAL.out w1 HG1.out).mono ?_
  rintro e w2 ⟨rfl, hbx⟩
  have hb2 := bStep hb1 hbx
  have d5 := b5.belowAll hbx
  clear b5 hb1 hbx HAL HG1
  have q0 := d5.at HCV.out.2.1
  have q1 := d5.at HCV.out.2.2.1
  have q2 := d5.at HCV.out.2.2.2.1
  have q3 := d5.at HCV.out.2.2.2.2.1
  have HG2 : Hid (Glob w2) := HG.out.below hb2
  go_wp2_with fail
  refine (copyB_any n0 _ F0 (by have := HN.out; omega) w2 (HE.out.1.below hb2)).mono ?_
  rintro e w3 ⟨va, rfl, oa', hb⟩
  obtain ⟨oa, ca, rfl⟩ := (own_Es oa').shape
  have ea := own_Es oa'
  have hb3 := bStep hb2 hb
  have e5 := d5.belowAll hb
  clear oa' hb q0 q1 q2 q3 d5 hw1 hw2 hw3 hs3
  have q1 := e5.at HCV.out.2.2.1
  go_wp2_with fail
  refine (copyB_any n1 _ F1 (by have := HN.out; omega) w3 (HE.out.2.1.below hb3)).mono ?_
  rintro e w4 ⟨vb, rfl, ob', hb⟩
  obtain ⟨ob, cb, rfl⟩ := (own_Es ob').shape
  have eb := own_Es ob'
  have ea4 := ea.below hb
  have hb4 := bStep hb3 hb
  have d5 := e5.belowAll hb
  clear ob' hb q1 e5 ea hb3
  have q6 := d5.at HCV.out.2.2.2.2.2.1
  go_wp2_with fail
  refine (copyB_any m _ f HM.out.2.2.2.2.1 w4 (HE.out.2.2.2.2.below hb4)).mono ?_
  rintro e w5 ⟨vc, rfl, oc', hb⟩
  obtain ⟨oc, cc', rfl⟩ := (own_Es oc').shape
  have ec := own_Es oc'
  have ea5 := ea4.below hb; have eb5 := eb.below hb
  have hb5 := bStep hb4 hb
  have e5 := d5.belowAll hb
  clear oc' hb q6 d5 ea4 eb hb4
  go_wp2_with fail
  refine (purse_any m _ f HM.out.2.2.2.2.1 w5 ec).mono ?_
  rintro e w6 ⟨⟨b, m', cm, om, rfl, lb, em', hone, hpe, hpn⟩, hb⟩
  rw [em'] at hone hpe
  clear em'
  have HPU : Hid (PurseS w6 w6.heap.size b m f) := ⟨om, cm, hone, hpe, hone.lt, fun g o e => ⟨(hpn.out g o e).2, by
    rcases hpe with ⟨h, _⟩ | ⟨b2, o2, c2, hv, _, _, hl, _⟩
    · rw [e] at h; cases h
    · rw [e] at hv; cases hv; exact hl⟩⟩
  have HNB : Hid ((∀ q o m c, Value.slice oa n0 ca = .slice (some ⟨q, o, none⟩) m c → q ≠ b) ∧ (∀ q o m c, Value.slice ob n1 cb = .slice (some ⟨q, o, none⟩) m c → q ≠ b) ∧ N5 ≠ b ∧ w.heap.size ≤ b) := ⟨ea5.ne lb, eb5.ne lb, by have := e5.lt; omega, Nat.le_trans hb5.size lb⟩
  have ea6 := ea5.below hb; have eb6 := eb5.below hb
  have d5 := e5.belowAll hb
  have hb6 := bStep hb5 hb
  clear hone hpe hpn lb hb e5 ea5 eb5 ec hb5
  have HG6 : Hid (Glob w6) := HG.out.below hb6
  have HEA : Hid (Es w6 (.slice oa n0 ca) n0 F0 ∧ Es w6 (.slice ob n1 cb) n1 F1) := ⟨ea6, eb6⟩
  have HB6 : Hid (Below w.heap.size w w6) := hb6
  have l5 := d5.lt
  have HG2B : Hid (2 ≤ b) := by have := HG.out.ge; have := HNB.out.2.2.2; show _ ≤ _; omega
  clear ea6 eb6 hb6 HG2
  go_upto_region 8 with fail
  refine wp_region_Z (fun w' => Lay w' 27 N5 cc) 99 (by kernel_rfl) ?_
  obtain ⟨wD, hD⟩ : ∃ z : World, z = w6.drew := ⟨_, rfl⟩
  rw [← hD]
  have low0 : Below w6.heap.size w6 wD := by rw [hD]; exact (Below.refl _ _).drew
  clear hD
  have S0 : Lay wD 27 N5 cc := d5.belowAll low0
  refine wpZ_take (i := 0) (v := .int .i64 si) 47 rfl rfl (by kernel_rfl) (by kernel_rfl) (by kernel_rfl) (Or.inr (by decide)) (fun _ _ _ h => h) (Or.inl ⟨by rfl, fun w hSw => by go_simp⟩) S0 ?_
  simp only [Act.put, List.setIfInBounds_toArray]
  try dsimp only [List.set_cons_zero, List.set_cons_succ]
  refine wpZ_take (i := 1) (v := .int .i64 k) 48 rfl rfl (by kernel_rfl) (by kernel_rfl) (by kernel_rfl) (Or.inr (by decide)) (fun _ _ _ h => h) (Or.inl ⟨by rfl, fun w hSw => by go_simp⟩) S0 ?_
  simp only [Act.put, List.setIfInBounds_toArray]
  try dsimp only [List.set_cons_zero, List.set_cons_succ]
  refine wpZ_take (i := 2) (v := .slice oa n0 ca) 49 rfl rfl (by kernel_rfl) (by kernel_rfl) (by kernel_rfl) (Or.inr (by decide)) (fun _ _ _ h => h) (Or.inl ⟨by rfl, fun w hSw => by go_simp⟩) S0 ?_
  simp only [Act.put, List.setIfInBounds_toArray]
  try dsimp only [List.set_cons_zero, List.set_cons_succ]
  refine wpZ_take (i := 3) (v := .slice ob n1 cb) 50 rfl rfl (by kernel_rfl) (by kernel_rfl) (by kernel_rfl) (Or.inr (by decide)) (fun _ _ _ h => h) (Or.inl ⟨by rfl, fun w hSw => by go_simp⟩) S0 ?_
  simp only [Act.put, List.setIfInBounds_toArray]
  try dsimp only [List.set_cons_zero, List.set_cons_succ]
  refine wpZ_take (i := 4) (v := .pointer (some ⟨N5, 2, none⟩)) 51 rfl rfl (by kernel_rfl) (by kernel_rfl) (by kernel_rfl) (Or.inr (by decide)) (fun _ _ _ h => h) (Or.inl ⟨by rfl, fun w hSw => by go_simp⟩) S0 ?_
  simp only [Act.put, List.setIfInBounds_toArray]
  try dsimp only [List.set_cons_zero, List.set_cons_succ]
  refine wpZ_take (i := 5) (v := .slice o2 n2 c2) 52 rfl rfl (by kernel_rfl) (by kernel_rfl) (by kernel_rfl) (Or.inr (by decide)) (fun _ _ _ h => h) (Or.inl ⟨by rfl, fun w hSw => by (have q := hSw.at HCV.out.2.2.2.1; clear hSw; go_simp)⟩) S0 ?_
  simp only [Act.put, List.setIfInBounds_toArray]
  try dsimp only [List.set_cons_zero, List.set_cons_succ]
  refine wpZ_take (i := 7) (v := .pointer (some ⟨N5, 3, none⟩)) 54 rfl rfl (by kernel_rfl) (by kernel_rfl) (by kernel_rfl) (Or.inr (by decide)) (fun _ _ _ h => h) (Or.inl ⟨by rfl, fun w hSw => by go_simp⟩) S0 ?_
  simp only [Act.put, List.setIfInBounds_toArray]
  try dsimp only [List.set_cons_zero, List.set_cons_succ]
  refine wpZ_take (i := 8) (v := .slice o3 n3 c3) 55 rfl rfl (by kernel_rfl) (by kernel_rfl) (by kernel_rfl) (Or.inr (by decide)) (fun _ _ _ h => h) (Or.inl ⟨by rfl, fun w hSw => by (have q := hSw.at HCV.out.2.2.2.2.1; clear hSw; go_simp)⟩) S0 ?_
  simp only [Act.put, List.setIfInBounds_toArray]
  try dsimp only [List.set_cons_zero, List.set_cons_succ]
  refine wpZ_take (i := 10) (v := .pointer (some ⟨N5, 4, none⟩)) 57 rfl rfl (by kernel_rfl) (by kernel_rfl) (by kernel_rfl) (Or.inr (by decide)) (fun _ _ _ h => h) (Or.inl ⟨by rfl, fun w hSw => by go_simp⟩) S0 ?_
  simp only [Act.put, List.setIfInBounds_toArray]
  try dsimp only [List.set_cons_zero, List.set_cons_succ]
  refine wpZ_take (i := 11) (v := .agg #[.int .u64 ((limb 0 (be) : Nat) : Int), .int .u64 ((limb 1 (be) : Nat) : Int), .int .u64 ((limb 2 (be) : Nat) : Int), .int .u64 ((limb 3 (be) : Nat) : Int)]) 58 rfl rfl (by kernel_rfl) (by kernel_rfl) (by kernel_rfl) (Or.inr (by decide)) (fun _ _ _ h => h) (Or.inl ⟨by rfl, fun w hSw => by (obtain ⟨q0, q1, q2, q3⟩ : w.cell? ⟨N5, 4, none⟩ = _ ∧ w.cell? ⟨N5, 5, none⟩ = _ ∧ w.cell? ⟨N5, 6, none⟩ = _ ∧ w.cell? ⟨N5, 7, none⟩ = _ := hSw.el HCV.out.2.2.2.2.2.2.1; clear hSw; go_simp)⟩) S0 ?_
  simp only [Act.put, List.setIfInBounds_toArray]
  try dsimp only [List.set_cons_zero, List.set_cons_succ]
  refine wpZ_take (i := 12) (v := .pointer (some ⟨N5, 8, none⟩)) 59 rfl rfl (by kernel_rfl) (by kernel_rfl) (by kernel_rfl) (Or.inr (by decide)) (fun _ _ _ h => h) (Or.inl ⟨by rfl, fun w hSw => by go_simp⟩) S0 ?_
  simp only [Act.put, List.setIfInBounds_toArray]
  try dsimp only [List.set_cons_zero, List.set_cons_succ]
  refine wpZ_take (i := 13) (v := .agg #[.int .u64 ((limb 0 (ga) : Nat) : Int), .int .u64 ((limb 1 (ga) : Nat) : Int), .int .u64 ((limb 2 (ga) : Nat) : Int), .int .u64 ((limb 3 (ga) : Nat) : Int)]) 60 rfl rfl (by kernel_rfl) (by kernel_rfl) (by kernel_rfl) (Or.inr (by decide)) (fun _ _ _ h => h) (Or.inl ⟨by rfl, fun w hSw => by (obtain ⟨q0, q1, q2, q3⟩ : w.cell? ⟨N5, 8, none⟩ = _ ∧ w.cell? ⟨N5, 9, none⟩ = _ ∧ w.cell? ⟨N5, 10, none⟩ = _ ∧ w.cell? ⟨N5, 11, none⟩ = _ := hSw.el HCV.out.2.2.2.2.2.2.2; clear hSw; go_simp)⟩) S0 ?_
  simp only [Act.put, List.setIfInBounds_toArray]
  try dsimp only [List.set_cons_zero, List.set_cons_succ]
  refine wpZ_take (i := 14) (v := .pointer (some ⟨b, 0, none⟩)) 61 rfl rfl (by kernel_rfl) (by kernel_rfl) (by kernel_rfl) (Or.inr (by decide)) (fun _ _ _ h => h) (Or.inl ⟨by rfl, fun w hSw => by go_simp⟩) S0 ?_
  simp only [Act.put, List.setIfInBounds_toArray]
  try dsimp only [List.set_cons_zero, List.set_cons_succ]
  refine wpZ_one (i := 6) (by kernel_rfl) rfl (fun K hK => ?_)
  go_simp
  refine (copyB_any n2 _ F2 (by have := HN.out; omega) wD (HE.out.2.2.1.below (bStep HB6.out low0))).mono ?_
  rintro e wE ⟨vd, rfl, od', hbE⟩
  obtain ⟨od, cd, rfl⟩ := (own_Es od').shape
  have ed := own_Es od'
  have lowE := bStep low0 hbE
  have SE : Lay wE 27 N5 cc := d5.belowAll lowE
  clear od'
  go_wp2_with fail
  refine hK.out _ _ (fun _ => SE) ?_
  clear hK K hbE
  refine wpZ_one (i := 9) (by kernel_rfl) rfl (fun K hK => ?_)
  go_simp
  refine (copyB_any n3 _ F3 (by have := HN.out; omega) wE (HE.out.2.2.2.1.below (bStep HB6.out lowE))).mono ?_
  rintro e wF ⟨ve, rfl, oe', hbF⟩
  obtain ⟨oe, ce, rfl⟩ := (own_Es oe').shape
  have ee := own_Es oe'
  have edF := ed.below hbF
  have lowF := bStep lowE hbF
  have SF : Lay wF 27 N5 cc := d5.belowAll lowF
  clear oe' ed
  go_wp2_with fail
  refine hK.out _ _ (fun _ => SF) ?_
  clear hK K hbF
  have eaF := HEA.out.1.below lowF; have ebF := HEA.out.2.below lowF
  have hpF := HPU.out.step lowF
  have hbwF := bStep HB6.out lowF
  refine wpZ_one (i := 15) (by kernel_rfl) rfl (fun K hK => ?_)
  go_simp
  refine (HP.out oa ob od oe ca cb cd ce b wF (HG.out.below hbwF) HG2B.out eaF ebF edF ee hpF).mono ?_
  rintro e wP ⟨⟨z, rfl, ez, hpu⟩, hku⟩
  have hkk := hku.toKept
  have SP : Lay wP 27 N5 cc := SF.kept HNB.out.2.2.1 hkk
  have eaP := eaF.kept HNB.out.1 hkk; have ebP := ebF.kept HNB.out.2.1 hkk
  have hbP := bKept hbwF HNB.out.2.2.2 hkk
  have HPP : Hid (er = 0 → PurseS wP wP.heap.size b (m - 3) (fun i => f (i + 3))) := hpu
  have HEP : Hid (Es wP z nz Fz ∧ Es wP (.slice oa n0 ca) n0 F0 ∧ Es wP (.slice ob n1 cb) n1 F1) := ⟨ez, eaP, ebP⟩
  clear hku hkk hpu eaF ebF edF ee hpF hbwF SF SE S0 lowE lowF low0 ez eaP ebP
  go_wp2_with fail
  refine hK.out _ _ (fun _ => SP) ?_
  clear hK K
  refine wpZ_take (i := 16) (v := .tuple #[z, .int .i64 er]) 46 rfl rfl (by kernel_rfl) (by kernel_rfl) (by kernel_rfl) (Or.inr (by decide)) (fun _ _ _ h => h) (Or.inl ⟨by rfl, fun w hSw => by go_simp⟩) SP ?_
  simp only [Act.put, List.setIfInBounds_toArray]
  try dsimp only [List.set_cons_zero, List.set_cons_succ]
  refine wpZ_take (i := 17) (v := z) 63 rfl rfl (by kernel_rfl) (by kernel_rfl) (by kernel_rfl) (Or.inr (by decide)) (fun _ _ _ h => h) (Or.inl ⟨by rfl, fun w hSw => by go_simp⟩) SP ?_
  simp only [Act.put, List.setIfInBounds_toArray]
  try dsimp only [List.set_cons_zero, List.set_cons_succ]
  refine wpZ_take (i := 18) (v := .int .i64 er) 64 rfl rfl (by kernel_rfl) (by kernel_rfl) (by kernel_rfl) (Or.inr (by decide)) (fun _ _ _ h => h) (Or.inl ⟨by rfl, fun w hSw => by go_simp⟩) SP ?_
  simp only [Act.put, List.setIfInBounds_toArray]
  try dsimp only [List.set_cons_zero, List.set_cons_succ]
  refine wpZ_take (i := 19) (v := z) 10 rfl rfl (by kernel_rfl) (by kernel_rfl) (by kernel_rfl) (Or.inr (by decide)) (fun _ _ _ h => h) (Or.inl ⟨by rfl, fun w hSw => by go_simp⟩) SP ?_
  simp only [Act.put, List.setIfInBounds_toArray]
  try dsimp only [List.set_cons_zero, List.set_cons_succ]
  refine wpZ_take (i := 20) (v := .int .i64 er) 11 rfl rfl (by kernel_rfl) (by kernel_rfl) (by kernel_rfl) (Or.inr (by decide)) (fun _ _ _ h => h) (Or.inl ⟨by rfl, fun w hSw => by go_simp⟩) SP ?_
  simp only [Act.put, List.setIfInBounds_toArray]
  try dsimp only [List.set_cons_zero, List.set_cons_succ]
  refine wpZ_done (by kernel_rfl) ?_ _
  have q0 := SP.at HCV.out.2.1
  have q1 := SP.at HCV.out.2.2.1
  have q2 := SP.at HCV.out.2.2.2.1
  have q3 := SP.at HCV.out.2.2.2.2.1
  have q6 := SP.at HCV.out.2.2.2.2.2.1
  obtain ⟨q4, q5, q7, q8⟩ : wP.cell? ⟨N5, 4, none⟩ = _ ∧ wP.cell? ⟨N5, 5, none⟩ = _ ∧ wP.cell? ⟨N5, 6, none⟩ = _ ∧ wP.cell? ⟨N5, 7, none⟩ = _ := SP.el HCV.out.2.2.2.2.2.2.1
  obtain ⟨q9, qa, qb, qc⟩ : wP.cell? ⟨N5, 8, none⟩ = _ ∧ wP.cell? ⟨N5, 9, none⟩ = _ ∧ wP.cell? ⟨N5, 10, none⟩ = _ ∧ wP.cell? ⟨N5, 11, none⟩ = _ := SP.el HCV.out.2.2.2.2.2.2.2
  go_wp2_with fail
  refine (HR.out wP (HE.out.1.below hbP) (HE.out.2.1.below hbP) (HE.out.2.2.1.below hbP) (HE.out.2.2.2.1.below hbP) (HE.out.2.2.2.2.below hbP)).mono ?_
  rintro e wR ⟨⟨j, y, rfl, ey, hj⟩, hbR⟩
  have HJ : Hid (er = 0 → j = 3 ∧ 3 ≤ m) := hj
  have d5 := SP.belowAll hbR
  have ezR := HEP.out.1.below hbR; have eaR := HEP.out.2.1.below hbR; have ebR := HEP.out.2.2.below hbR
  have hbwR := bStep hbP hbR
  have HPR : Hid (er = 0 → PurseS wR wR.heap.size b (m - 3) (fun i => f (i + 3))) := fun h => (HPP.out h).step hbR
  clear q0 q1 q2 q3 q4 q5 q6 q7 q8 q9 qa qb qc hbR SP hbP HEP HPP hj
  go_upto_region 10 with fail
  obtain ⟨w7, hw7⟩ : ∃ z : World, z = wR.alloc (.cells #[.slice o6 m c6, .int .i64 j] 36) := ⟨_, rfl⟩
  obtain ⟨N12, e12⟩ : ∃ z, z = wR.heap.size := ⟨_, rfl⟩
  have b12 : Lay w7 36 N12 #[.slice o6 m c6, .int .i64 j] := by rw [hw7]; exact Lay.newAt _ _ _ e12
  have hbn : Below wR.heap.size wR w7 := by rw [hw7]; exact bAlloc (Below.refl _ _) _
  have d57 := d5.belowAll hbn
  have ez7 := ezR.below hbn; have ey7 := ey.below hbn; have ea7 := eaR.below hbn; have eb7 := ebR.below hbn
  have hb7 := bStep hbwR hbn
  have HP7 : Hid (er = 0 → PurseS w7 w7.heap.size b (m - 3) (fun i => f (i + 3))) := fun h => (HPR.out h).step hbn
  rw [← hw7]
  try rw [← e12]
  clear hw7 e12 hbn d5 ezR ey eaR ebR hbwR HPR
  have q0 := d57.at HCV.out.2.1; have q1 := d57.at HCV.out.2.2.1
  go_wp2_with fail
  refine (sameB_self _ _ nz Fz (by have := HM.out.2.2.2.2.2; omega) HM.out.2.2.1 w7 ez7 ey7).mono ?_
  rintro e w8 ⟨rfl, hb⟩
  have d58 := d57.belowAll hb
  have c12 := b12.belowAll hb
  have ea8 := ea7.below hb; have eb8 := eb7.below hb
  have hb8 := bStep hb7 hb
  have HP8 : Hid (er = 0 → PurseS w8 w8.heap.size b (m - 3) (fun i => f (i + 3))) := fun h => (HP7.out h).step hb
  clear q0 q1 hb d57 b12 ea7 eb7 ez7 ey7 hb7 HP7
  have q0 := d58.at HCV.out.2.1; have q1 := d58.at HCV.out.2.2.1
  go_wp2_with fail
  refine (sameB_self _ _ n0 F0 (by have := HN.out; omega) HM.out.1 w8 ea8 (HE.out.1.below hb8)).mono ?_
  rintro e w9 ⟨rfl, hb⟩
  have d59 := d58.belowAll hb
  have b12 := c12.belowAll hb
  have eb9 := eb8.below hb
  have hb9 := bStep hb8 hb
  have HP9 : Hid (er = 0 → PurseS w9 w9.heap.size b (m - 3) (fun i => f (i + 3))) := fun h => (HP8.out h).step hb
  clear q0 q1 hb d58 c12 ea8 eb8 hb8 HP8
  have q1 := d59.at HCV.out.2.2.1
  go_wp2_with fail
  refine (sameB_self _ _ n1 F1 (by have := HN.out; omega) HM.out.2.1 w9 eb9 (HE.out.2.1.below hb9)).mono ?_
  rintro e wa ⟨rfl, hb⟩
  have c12 := b12.belowAll hb
  have hba := bStep hb9 hb
  have HPa : Hid (er = 0 → PurseS wa wa.heap.size b (m - 3) (fun i => f (i + 3))) := fun h => (HP9.out h).step hb
  clear q1 hb d59 b12 eb9 hb9 HP9
  by_cases her : er = 0
  · have hpa := HPa.out her
    obtain ⟨rfl, hm3⟩ := HJ.out her
    subst her
    clear HJ HPa
    by_cases hmm : m = 3
    · have hpa0 : PurseS wa wa.heap.size b 0 (fun i => f (i + 3)) := by have h := hpa; rw [show m - 3 = 0 by omega] at h; exact h
      have hle : m ≤ 3 := by omega
      clear hpa hmm hm3
      go_wp2_with fail
      refine (pnext_none _ b _ wa hpa0).mono ?_
      rintro e wb ⟨rfl, hb⟩
      have b12 := c12.belowAll hb
      have hbb := bStep hba hb
      clear hpa0 hb c12 hba
      go_upto_region 15 with fail
      obtain ⟨wc, hwc⟩ : ∃ z : World, z = wb.alloc (.cells #[.int .u64 0, .int .u64 0, .int .u64 0, .int .u64 0] 25) := ⟨_, rfl⟩
      obtain ⟨N15, e15⟩ : ∃ z, z = wb.heap.size := ⟨_, rfl⟩
      have b15 : Blk wc 25 N15 (fun _ => 0) := by rw [hwc]; exact Blk.newAt _ _ _ (fun _ => 0) e15
      have hbn : Below wb.heap.size wb wc := by rw [hwc]; exact bAlloc (Below.refl _ _) _
      have c12 := b12.belowAll hbn
      have hbc := bStep hbb hbn
      rw [← hwc]
      try rw [← e15]
      clear hwc e15 hbn b12 hbb
      have q0 := c12.at (o := 0) rfl; have q1 := c12.at (o := 1) rfl
      go_wp2_with fail
      refine (rnext_none o6 m c6 3 hle wc).mono ?_
      rintro e wd ⟨rfl, hb⟩
      have c15 := b15.belowAll hb
      have hbd := bStep hbc hb
      clear q0 q1 hb b15 hbc c12
      go_upto_region 16 with fail
      obtain ⟨we, hwe⟩ : ∃ z : World, z = (wd.alloc (.cells #[.slice o6 m c6, .int .i64 3] 36)).alloc (.cells #[.int .u64 0, .int .u64 0, .int .u64 0, .int .u64 0] 25) := ⟨_, rfl⟩
      obtain ⟨N17, e17⟩ : ∃ z, z = (wd.alloc (.cells #[.slice o6 m c6, .int .i64 3] 36)).heap.size := ⟨_, rfl⟩
      have b17 : Blk we 25 N17 (fun _ => 0) := by rw [hwe]; exact Blk.newAt _ _ _ (fun _ => 0) e17
      have hbn : Below wd.heap.size wd we := by rw [hwe]; exact bAlloc (bAlloc (Below.refl _ _) _) _
      have d15 := c15.belowAll hbn
      have hbe := bStep hbd hbn
      have hs : (wd.alloc (.cells #[.slice o6 m c6, .int .i64 3] 36)).heap.size = wd.heap.size + 1 := Array.size_push ..
      try rw [← hs]
      rw [← hwe]
      try rw [← e17]
      clear hwe e17 hbn c15 hbd hs
      have q5 := d15.cell; have q7 := b17.cell
      have heq : ∀ w, (binOp .eql 25 (.agg #[.int .u64 ((limb 0 (0) : Nat) : Int), .int .u64 ((limb 1 (0) : Nat) : Int), .int .u64 ((limb 2 (0) : Nat) : Int), .int .u64 ((limb 3 (0) : Nat) : Int)]) (.agg #[.int .u64 ((limb 0 (0) : Nat) : Int), .int .u64 ((limb 1 (0) : Nat) : Int), .int .u64 ((limb 2 (0) : Nat) : Int), .int .u64 ((limb 3 (0) : Nat) : Int)])).run Tryd.prog w = .ok (.bool true) w := fun w => by have h := eqlE2 0 0 M_pos M_pos w; rw [decide_eq_true rfl] at h; exact h
      rw [zE] at heq
      go_wp2
      go_ret
      exact ⟨rfl, hbe⟩
    · have hlt : 3 < m := by omega
      have hx : f 3 < 115792089237316195423570985008687907853269984665640564039457584007913129639936 := HM.out.2.2.2.1 3 hlt
      have HNP := pnext_some wa.heap.size b (m - 3) (fun i => f (i + 3)) (by omega) wa hpa
      have hm63 : m < 9223372036854775807 := by have := HM.out.2.2.2.2.1; omega
      have HNR := fun w (h : Es w (.slice o6 m c6) m f) => rnext_some o6 m c6 3 f hlt hm63 w h
      have HNP2 : Calls Tryd.prog 10 #[.pointer (some ⟨b, 0, none⟩)] wa fun e w' => e = .returned (.tuple #[.agg #[.int .u64 ((limb 0 (f 3) : Nat) : Int), .int .u64 ((limb 1 (f 3) : Nat) : Int), .int .u64 ((limb 2 (f 3) : Nat) : Int), .int .u64 ((limb 3 (f 3) : Nat) : Int)], .int .i64 0]) ∧ Kept b wa w' := HNP.mono (by rintro e w' ⟨⟨h, _⟩, hk⟩; exact ⟨h, hk⟩)
      obtain ⟨x, ex⟩ : ∃ z, z = f 3 := ⟨_, rfl⟩
      rw [← ex] at HNP2 HNR hx
      have HNR : Hid (∀ w, Es w (.slice o6 m c6) m f → Calls Tryd.prog 11 #[.agg #[.slice o6 m c6, .int .i64 3]] w fun e w' => e = .returned (.tuple #[.agg #[.slice o6 m c6, .int .i64 4], .agg #[.int .u64 ((limb 0 (x) : Nat) : Int), .int .u64 ((limb 1 (x) : Nat) : Int), .int .u64 ((limb 2 (x) : Nat) : Int), .int .u64 ((limb 3 (x) : Nat) : Int)], .int .i64 0]) ∧ Below w.heap.size w w') := fun w h => HNR w h
      have heq : ∀ w, (binOp .eql 25 (.agg #[.int .u64 ((limb 0 (x) : Nat) : Int), .int .u64 ((limb 1 (x) : Nat) : Int), .int .u64 ((limb 2 (x) : Nat) : Int), .int .u64 ((limb 3 (x) : Nat) : Int)]) (.agg #[.int .u64 ((limb 0 (x) : Nat) : Int), .int .u64 ((limb 1 (x) : Nat) : Int), .int .u64 ((limb 2 (x) : Nat) : Int), .int .u64 ((limb 3 (x) : Nat) : Int)])).run Tryd.prog w = .ok (.bool true) w := fun w => by have h := eqlE2 x x hx hx w; rw [decide_eq_true rfl] at h; exact h
      have n12b : N12 ≠ b := by obtain ⟨_, _, h1, _⟩ := hpa; intro h; unfold One1 at h1; unfold Lay at c12; rw [h, h1] at c12; simp at c12
      clear ex HNP hpa hmm hm3 hx hm63
      go_wp2_with fail
      refine HNP2.mono ?_
      rintro e wb ⟨rfl, hk⟩
      have b12 := c12.kept n12b hk
      have hbb := bKept hba HNB.out.2.2.2 hk
      clear HNP2 hk c12 hba
      go_upto_region 15 with fail
      obtain ⟨wc, hwc⟩ : ∃ z : World, z = wb.alloc (.cells #[.int .u64 ((limb 0 (x) : Nat) : Int), .int .u64 ((limb 1 (x) : Nat) : Int), .int .u64 ((limb 2 (x) : Nat) : Int), .int .u64 ((limb 3 (x) : Nat) : Int)] 25) := ⟨_, rfl⟩
      obtain ⟨N15, e15⟩ : ∃ z, z = wb.heap.size := ⟨_, rfl⟩
      have b15 : Blk wc 25 N15 (fun i => limb i x) := by rw [hwc]; exact Blk.newAt _ _ _ (fun i => limb i x) e15
      have hbn : Below wb.heap.size wb wc := by rw [hwc]; exact bAlloc (Below.refl _ _) _
      have c12 := b12.belowAll hbn
      have hbc := bStep hbb hbn
      rw [← hwc]
      try rw [← e15]
      clear hwc e15 hbn b12 hbb
      have q0 := c12.at (o := 0) rfl; have q1 := c12.at (o := 1) rfl
      go_wp2_with fail
      refine (HNR.out wc (HE.out.2.2.2.2.below hbc)).mono ?_
      rintro e wd ⟨rfl, hb⟩
      have c15 := b15.belowAll hb
      have hbd := bStep hbc hb
      clear q0 q1 hb b15 hbc c12
      go_upto_region 16 with fail
      obtain ⟨we, hwe⟩ : ∃ z : World, z = (wd.alloc (.cells #[.slice o6 m c6, .int .i64 4] 36)).alloc (.cells #[.int .u64 ((limb 0 (x) : Nat) : Int), .int .u64 ((limb 1 (x) : Nat) : Int), .int .u64 ((limb 2 (x) : Nat) : Int), .int .u64 ((limb 3 (x) : Nat) : Int)] 25) := ⟨_, rfl⟩
      obtain ⟨N17, e17⟩ : ∃ z, z = (wd.alloc (.cells #[.slice o6 m c6, .int .i64 4] 36)).heap.size := ⟨_, rfl⟩
      have b17 : Blk we 25 N17 (fun i => limb i x) := by rw [hwe]; exact Blk.newAt _ _ _ (fun i => limb i x) e17
      have hbn : Below wd.heap.size wd we := by rw [hwe]; exact bAlloc (bAlloc (Below.refl _ _) _) _
      have d15 := c15.belowAll hbn
      have hbe := bStep hbd hbn
      have hs : (wd.alloc (.cells #[.slice o6 m c6, .int .i64 4] 36)).heap.size = wd.heap.size + 1 := Array.size_push ..
      try rw [← hs]
      rw [← hwe]
      try rw [← e17]
      clear hwe e17 hbn c15 hbd hs
      have q5 := d15.cell; have q7 := b17.cell
      go_wp2
      go_ret
      exact ⟨rfl, hbe⟩
  · clear c12 HPa HJ
    go_wp2
    go_ret
    exact ⟨rfl, hba⟩
end Go.Proofs.YteheloagjkengaaDoor
