/- PermuteProducts by what both Products answer. -/
import Derived.Test.YtfbfenljfdnggaaGreatDoorVWK
import Derived.Test.YtfbfenljfdnggaaGreatDoorVWH
import Derived.Test.YtfbfenljfdnggaaGreatDoorVWI
import Derived.Test.YtfbfenljfdnggaaGreatDoorVW9
import Derived.Test.YtfbfenljfdnggaaGreatDoorVWG
import Derived.Test.YtfbfenljfdnggaaGreatDoorVRQ1
import Derived.Test.YtfbfenljfdnggaaGreatDoorVRQ3
namespace Go.Proofs.YtfbfenljfdnggaaGreatDoor
open Go.RowKit
theorem KU.toKeptQ {b : Nat} {w w' : World} (h : KU w.heap.size b w w') : Kept b w w' := ⟨h.1, h.2.1, h.2.2.1, h.2.2.2.1, fun k hk hne => h.2.2.2.2 k hk hne⟩
theorem eqlER (X : Nat) (w : World) : (binOp .eql 25 (.agg #[.int .u64 ((limb 0 (X) : Nat) : Int), .int .u64 ((limb 1 (X) : Nat) : Int), .int .u64 ((limb 2 (X) : Nat) : Int), .int .u64 ((limb 3 (X) : Nat) : Int)]) (.agg #[.int .u64 ((limb 0 (X) : Nat) : Int), .int .u64 ((limb 1 (X) : Nat) : Int), .int .u64 ((limb 2 (X) : Nat) : Int), .int .u64 ((limb 3 (X) : Nat) : Int)])).run Tryz.prog w = .ok (.bool true) w := by
  rw [run_eql_struct, eq4_in]; simp
set_option maxHeartbeats 8000000 in
set_option maxRecDepth 20000 in
theorem pq_skip (si k : Int) (om : Option Addr) (m cm : Nat) (on : Option Addr) (n cn : Nat) (oc : Option Addr) (l cl be ga : Nat) (h : 20 < m ∨ 20 < n ∨ si = 2 ∨ si = 3) (w : World) (hg : GlobD w) :
    Calls Tryz.prog 3 #[.int .i64 si, .int .i64 k, .slice om m cm, .slice on n cn, .agg #[.int .u64 ((limb 0 (be) : Nat) : Int), .int .u64 ((limb 1 (be) : Nat) : Int), .int .u64 ((limb 2 (be) : Nat) : Int), .int .u64 ((limb 3 (be) : Nat) : Int)], .agg #[.int .u64 ((limb 0 (ga) : Nat) : Int), .int .u64 ((limb 1 (ga) : Nat) : Int), .int .u64 ((limb 2 (ga) : Nat) : Int), .int .u64 ((limb 3 (ga) : Nat) : Int)], .slice oc l cl] w fun e w' => e = .returned (.bool true) ∧ Below w.heap.size w w' := by
  have HG : Hid (GlobD w) := hg
  have HAL : Hid (∀ w, GlobD w → _) := fun w hg => alive16_any w hg
  have h' : 20 < m ∨ (¬ 20 < m ∧ 20 < n) ∨ (¬ 20 < m ∧ ¬ 20 < n ∧ si = 2) ∨ (¬ 20 < m ∧ ¬ 20 < n ∧ si = 3) := by omega
  clear hg h
  rcases h' with h1 | ⟨h1, h2⟩ | ⟨h1, h2, rfl⟩ | ⟨h1, h2, rfl⟩
  · have HD1 : Hid (decide (20 < m) = true) := decide_eq_true h1
    clear h1
    go_enter Tryz.func3, Tryz.ntmps3
    go_wp2_with fail
    have hs1 : (w.alloc (.cells #[.int .u64 ((limb 0 (be) : Nat) : Int), .int .u64 ((limb 1 (be) : Nat) : Int), .int .u64 ((limb 2 (be) : Nat) : Int), .int .u64 ((limb 3 (be) : Nat) : Int)] 25)).heap.size = w.heap.size + 1 := Array.size_push ..
    obtain ⟨N11, e0⟩ : ∃ z, z = w.heap.size := ⟨_, rfl⟩
    obtain ⟨N12, e1⟩ : ∃ z, z = N11 + 1 := ⟨_, rfl⟩
    obtain ⟨w1, hw1⟩ : ∃ z : World, z = (w.alloc (.cells #[.int .u64 ((limb 0 (be) : Nat) : Int), .int .u64 ((limb 1 (be) : Nat) : Int), .int .u64 ((limb 2 (be) : Nat) : Int), .int .u64 ((limb 3 (be) : Nat) : Int)] 25)).alloc (.cells #[.int .u64 ((limb 0 (ga) : Nat) : Int), .int .u64 ((limb 1 (ga) : Nat) : Int), .int .u64 ((limb 2 (ga) : Nat) : Int), .int .u64 ((limb 3 (ga) : Nat) : Int)] 25) := ⟨_, rfl⟩
    have b11 : Blk w1 25 N11 (fun i => limb i be) := by rw [hw1]; exact (Blk.newAt _ _ _ (fun i => limb i be) e0).alloc _
    have b12 : Blk w1 25 N12 (fun i => limb i ga) := by rw [hw1]; exact Blk.newAt _ _ _ (fun i => limb i ga) (by rw [e1, e0, hs1])
    have hb1 : Below w.heap.size w w1 := by rw [hw1]; exact bAlloc (bAlloc (Below.refl _ _) _) _
    rw [← hw1]
    try rw [← e0]
    try rw [← e1]
    have l11 : w.heap.size ≤ N11 := by omega
    have l12 : w.heap.size ≤ N12 := by omega
    have n11_12 : N11 ≠ N12 := by omega
    clear hw1 e0 e1 hs1
    have HG1 : Hid (GlobD w1) := HG.out.below hb1
    refine (HAL.out w1 HG1.out).mono ?_
    rintro e w2 ⟨rfl, hbx⟩
    have hb2 := bStep hb1 hbx
    have c11 := b11.belowAll hbx; have c12 := b12.belowAll hbx
    clear b11 b12 hb1 hbx HAL HG1
    go_wp2_with fail
    refine (great16_any om m cm w2).mono ?_
    rintro e w3 ⟨rfl, e3⟩
    rw [e3, HD1.out]
    clear e3 w3
    clear c11 c12
    go_wp2
    go_ret
    exact ⟨rfl, hb2⟩
  · have HD1 : Hid (decide (20 < m) = false) := decide_eq_false h1
    have HD2 : Hid (decide (20 < n) = true) := decide_eq_true h2
    clear h1 h2
    go_enter Tryz.func3, Tryz.ntmps3
    go_wp2_with fail
    have hs1 : (w.alloc (.cells #[.int .u64 ((limb 0 (be) : Nat) : Int), .int .u64 ((limb 1 (be) : Nat) : Int), .int .u64 ((limb 2 (be) : Nat) : Int), .int .u64 ((limb 3 (be) : Nat) : Int)] 25)).heap.size = w.heap.size + 1 := Array.size_push ..
    obtain ⟨N11, e0⟩ : ∃ z, z = w.heap.size := ⟨_, rfl⟩
    obtain ⟨N12, e1⟩ : ∃ z, z = N11 + 1 := ⟨_, rfl⟩
    obtain ⟨w1, hw1⟩ : ∃ z : World, z = (w.alloc (.cells #[.int .u64 ((limb 0 (be) : Nat) : Int), .int .u64 ((limb 1 (be) : Nat) : Int), .int .u64 ((limb 2 (be) : Nat) : Int), .int .u64 ((limb 3 (be) : Nat) : Int)] 25)).alloc (.cells #[.int .u64 ((limb 0 (ga) : Nat) : Int), .int .u64 ((limb 1 (ga) : Nat) : Int), .int .u64 ((limb 2 (ga) : Nat) : Int), .int .u64 ((limb 3 (ga) : Nat) : Int)] 25) := ⟨_, rfl⟩
    have b11 : Blk w1 25 N11 (fun i => limb i be) := by rw [hw1]; exact (Blk.newAt _ _ _ (fun i => limb i be) e0).alloc _
    have b12 : Blk w1 25 N12 (fun i => limb i ga) := by rw [hw1]; exact Blk.newAt _ _ _ (fun i => limb i ga) (by rw [e1, e0, hs1])
    have hb1 : Below w.heap.size w w1 := by rw [hw1]; exact bAlloc (bAlloc (Below.refl _ _) _) _
    rw [← hw1]
    try rw [← e0]
    try rw [← e1]
    have l11 : w.heap.size ≤ N11 := by omega
    have l12 : w.heap.size ≤ N12 := by omega
    have n11_12 : N11 ≠ N12 := by omega
    clear hw1 e0 e1 hs1
    have HG1 : Hid (GlobD w1) := HG.out.below hb1
    refine (HAL.out w1 HG1.out).mono ?_
    rintro e w2 ⟨rfl, hbx⟩
    have hb2 := bStep hb1 hbx
    have c11 := b11.belowAll hbx; have c12 := b12.belowAll hbx
    clear b11 b12 hb1 hbx HAL HG1
    go_wp2_with fail
    refine (great16_any om m cm w2).mono ?_
    rintro e w3 ⟨rfl, e3⟩
    rw [e3, HD1.out]
    clear e3 w3
    go_wp2_with fail
    refine (great16_any on n cn w2).mono ?_
    rintro e w3 ⟨rfl, e3⟩
    rw [e3, HD2.out]
    clear e3 w3
    clear c11 c12
    go_wp2
    go_ret
    exact ⟨rfl, hb2⟩
  · have HD1 : Hid (decide (20 < m) = false) := decide_eq_false h1
    have HD2 : Hid (decide (20 < n) = false) := decide_eq_false h2
    clear h1 h2
    go_enter Tryz.func3, Tryz.ntmps3
    go_wp2_with fail
    have hs1 : (w.alloc (.cells #[.int .u64 ((limb 0 (be) : Nat) : Int), .int .u64 ((limb 1 (be) : Nat) : Int), .int .u64 ((limb 2 (be) : Nat) : Int), .int .u64 ((limb 3 (be) : Nat) : Int)] 25)).heap.size = w.heap.size + 1 := Array.size_push ..
    obtain ⟨N11, e0⟩ : ∃ z, z = w.heap.size := ⟨_, rfl⟩
    obtain ⟨N12, e1⟩ : ∃ z, z = N11 + 1 := ⟨_, rfl⟩
    obtain ⟨w1, hw1⟩ : ∃ z : World, z = (w.alloc (.cells #[.int .u64 ((limb 0 (be) : Nat) : Int), .int .u64 ((limb 1 (be) : Nat) : Int), .int .u64 ((limb 2 (be) : Nat) : Int), .int .u64 ((limb 3 (be) : Nat) : Int)] 25)).alloc (.cells #[.int .u64 ((limb 0 (ga) : Nat) : Int), .int .u64 ((limb 1 (ga) : Nat) : Int), .int .u64 ((limb 2 (ga) : Nat) : Int), .int .u64 ((limb 3 (ga) : Nat) : Int)] 25) := ⟨_, rfl⟩
    have b11 : Blk w1 25 N11 (fun i => limb i be) := by rw [hw1]; exact (Blk.newAt _ _ _ (fun i => limb i be) e0).alloc _
    have b12 : Blk w1 25 N12 (fun i => limb i ga) := by rw [hw1]; exact Blk.newAt _ _ _ (fun i => limb i ga) (by rw [e1, e0, hs1])
    have hb1 : Below w.heap.size w w1 := by rw [hw1]; exact bAlloc (bAlloc (Below.refl _ _) _) _
    rw [← hw1]
    try rw [← e0]
    try rw [← e1]
    have l11 : w.heap.size ≤ N11 := by omega
    have l12 : w.heap.size ≤ N12 := by omega
    have n11_12 : N11 ≠ N12 := by omega
    clear hw1 e0 e1 hs1
    have HG1 : Hid (GlobD w1) := HG.out.below hb1
    refine (HAL.out w1 HG1.out).mono ?_
    rintro e w2 ⟨rfl, hbx⟩
    have hb2 := bStep hb1 hbx
    have c11 := b11.belowAll hbx; have c12 := b12.belowAll hbx
    clear b11 b12 hb1 hbx HAL HG1
    go_wp2_with fail
    refine (great16_any om m cm w2).mono ?_
    rintro e w3 ⟨rfl, e3⟩
    rw [e3, HD1.out]
    clear e3 w3
    go_wp2_with fail
    refine (great16_any on n cn w2).mono ?_
    rintro e w3 ⟨rfl, e3⟩
    rw [e3, HD2.out]
    clear e3 w3
    clear c11 c12
    go_wp2
    go_ret
    exact ⟨rfl, hb2⟩
  · have HD1 : Hid (decide (20 < m) = false) := decide_eq_false h1
    have HD2 : Hid (decide (20 < n) = false) := decide_eq_false h2
    clear h1 h2
    go_enter Tryz.func3, Tryz.ntmps3
    go_wp2_with fail
    have hs1 : (w.alloc (.cells #[.int .u64 ((limb 0 (be) : Nat) : Int), .int .u64 ((limb 1 (be) : Nat) : Int), .int .u64 ((limb 2 (be) : Nat) : Int), .int .u64 ((limb 3 (be) : Nat) : Int)] 25)).heap.size = w.heap.size + 1 := Array.size_push ..
    obtain ⟨N11, e0⟩ : ∃ z, z = w.heap.size := ⟨_, rfl⟩
    obtain ⟨N12, e1⟩ : ∃ z, z = N11 + 1 := ⟨_, rfl⟩
    obtain ⟨w1, hw1⟩ : ∃ z : World, z = (w.alloc (.cells #[.int .u64 ((limb 0 (be) : Nat) : Int), .int .u64 ((limb 1 (be) : Nat) : Int), .int .u64 ((limb 2 (be) : Nat) : Int), .int .u64 ((limb 3 (be) : Nat) : Int)] 25)).alloc (.cells #[.int .u64 ((limb 0 (ga) : Nat) : Int), .int .u64 ((limb 1 (ga) : Nat) : Int), .int .u64 ((limb 2 (ga) : Nat) : Int), .int .u64 ((limb 3 (ga) : Nat) : Int)] 25) := ⟨_, rfl⟩
    have b11 : Blk w1 25 N11 (fun i => limb i be) := by rw [hw1]; exact (Blk.newAt _ _ _ (fun i => limb i be) e0).alloc _
    have b12 : Blk w1 25 N12 (fun i => limb i ga) := by rw [hw1]; exact Blk.newAt _ _ _ (fun i => limb i ga) (by rw [e1, e0, hs1])
    have hb1 : Below w.heap.size w w1 := by rw [hw1]; exact bAlloc (bAlloc (Below.refl _ _) _) _
    rw [← hw1]
    try rw [← e0]
    try rw [← e1]
    have l11 : w.heap.size ≤ N11 := by omega
    have l12 : w.heap.size ≤ N12 := by omega
    have n11_12 : N11 ≠ N12 := by omega
    clear hw1 e0 e1 hs1
    have HG1 : Hid (GlobD w1) := HG.out.below hb1
    refine (HAL.out w1 HG1.out).mono ?_
    rintro e w2 ⟨rfl, hbx⟩
    have hb2 := bStep hb1 hbx
    have c11 := b11.belowAll hbx; have c12 := b12.belowAll hbx
    clear b11 b12 hb1 hbx HAL HG1
    go_wp2_with fail
    refine (great16_any om m cm w2).mono ?_
    rintro e w3 ⟨rfl, e3⟩
    rw [e3, HD1.out]
    clear e3 w3
    go_wp2_with fail
    refine (great16_any on n cn w2).mono ?_
    rintro e w3 ⟨rfl, e3⟩
    rw [e3, HD2.out]
    clear e3 w3
    clear c11 c12
    go_wp2
    go_ret
    exact ⟨rfl, hb2⟩
set_option maxHeartbeats 8000000 in
set_option maxRecDepth 20000 in
theorem pq_walk (si k er : Int) (om : Option Addr) (m cm : Nat) (on : Option Addr) (n cn : Nat) (oc : Option Addr) (l cl be ga : Nat) (C kk : Nat) (LZ : Nat → Nat) (EZ : Nat → Nat → Nat) (F F2 : Nat → Value) (L L2 : Nat → Nat) (X Y : Nat → Nat → Nat) (f : Nat → Nat) (hs2 : si ≠ 2) (hs3 : si ≠ 3) (hm : m ≤ 20) (hn : n ≤ 20) (hl : l ≤ 4398046510976) (hL : ∀ i, i < m → L i ≤ 4398046510976) (hL2 : ∀ i, i < n → L2 i ≤ 4398046510976) (hX : ∀ r i, i < m → X i r < 115792089237316195423570985008687907853269984665640564039457584007913129639936) (hY : ∀ r i, i < n → Y i r < 115792089237316195423570985008687907853269984665640564039457584007913129639936)
    (hC : C ≤ 1000) (hLZ : ∀ i, i < C → LZ i ≤ 1000) (hEZ : ∀ i, i < C → ∀ j, j < LZ i → EZ i j < 115792089237316195423570985008687907853269984665640564039457584007913129639936)
    (hpr : ∀ (oa ob : Option Addr) (ca cb b : Nat) (Fa Fb : Nat → Value) (w' : World), GlobD w' → 3 ≤ b → Tab w' (.slice oa m ca) m Fa L X → Tab w' (.slice ob n cb) n Fb L2 Y → PurseS w' w'.heap.size b l f → Calls Tryz.prog 10 #[.int .i64 si, .int .i64 k, .slice oa m ca, .slice ob n cb, .agg #[.int .u64 ((limb 0 (be) : Nat) : Int), .int .u64 ((limb 1 (be) : Nat) : Int), .int .u64 ((limb 2 (be) : Nat) : Int), .int .u64 ((limb 3 (be) : Nat) : Int)], .agg #[.int .u64 ((limb 0 (ga) : Nat) : Int), .int .u64 ((limb 1 (ga) : Nat) : Int), .int .u64 ((limb 2 (ga) : Nat) : Int), .int .u64 ((limb 3 (ga) : Nat) : Int)], .pointer (some ⟨b, 0, none⟩)] w' fun e w'' => (∃ (va : Value) (Fv : Nat → Value), e = .returned (.tuple #[va, .int .i64 er]) ∧ Tab w'' va C Fv LZ EZ ∧ (er = 0 → ∃ bs, bs ≤ w''.heap.size ∧ PurseS w'' bs b (l - kk) (fun i => f (i + kk)))) ∧ KU w'.heap.size b w' w'')
    (hrf : ∀ w', Tab w' (.slice om m cm) m F L X → Tab w' (.slice on n cn) n F2 L2 Y → Es w' (.slice oc l cl) l f → Calls Tryz.prog 11 #[.int .i64 si, .int .i64 k, .slice om m cm, .slice on n cn, .agg #[.int .u64 ((limb 0 (be) : Nat) : Int), .int .u64 ((limb 1 (be) : Nat) : Int), .int .u64 ((limb 2 (be) : Nat) : Int), .int .u64 ((limb 3 (be) : Nat) : Int)], .agg #[.int .u64 ((limb 0 (ga) : Nat) : Int), .int .u64 ((limb 1 (ga) : Nat) : Int), .int .u64 ((limb 2 (ga) : Nat) : Int), .int .u64 ((limb 3 (ga) : Nat) : Int)], .agg #[.slice oc l cl, .int .i64 0]] w' fun e w'' => (∃ (vb : Value) (Fv : Nat → Value) (t : Int), e = .returned (.tuple #[.agg #[.slice oc l cl, .int .i64 t], vb, .int .i64 er]) ∧ Tab w'' vb C Fv LZ EZ ∧ (er = 0 → t = (kk : Int))) ∧ Below w'.heap.size w' w'')
    (w : World) (hg : GlobD w) (e1 : Tab w (.slice om m cm) m F L X) (e2 : Tab w (.slice on n cn) n F2 L2 Y) (e3 : Es w (.slice oc l cl) l f) :
    Calls Tryz.prog 3 #[.int .i64 si, .int .i64 k, .slice om m cm, .slice on n cn, .agg #[.int .u64 ((limb 0 (be) : Nat) : Int), .int .u64 ((limb 1 (be) : Nat) : Int), .int .u64 ((limb 2 (be) : Nat) : Int), .int .u64 ((limb 3 (be) : Nat) : Int)], .agg #[.int .u64 ((limb 0 (ga) : Nat) : Int), .int .u64 ((limb 1 (ga) : Nat) : Int), .int .u64 ((limb 2 (ga) : Nat) : Int), .int .u64 ((limb 3 (ga) : Nat) : Int)], .slice oc l cl] w fun e w' => e = .returned (.bool true) ∧ Below w.heap.size w w' := by
  have HG : Hid (GlobD w) := hg
  have HAL : Hid (∀ w, GlobD w → _) := fun w hg => alive16_any w hg
  have HE : Hid (Tab w (.slice om m cm) m F L X ∧ Tab w (.slice on n cn) n F2 L2 Y ∧ Es w (.slice oc l cl) l f) := ⟨e1, e2, e3⟩
  have HM : Hid (m ≤ 20 ∧ n ≤ 20 ∧ l ≤ 4398046510976 ∧ (∀ i, i < m → L i ≤ 4398046510976) ∧ ∀ i, i < n → L2 i ≤ 4398046510976) := ⟨hm, hn, hl, hL, hL2⟩
  have HXY : Hid ((∀ r i, i < m → X i r < 115792089237316195423570985008687907853269984665640564039457584007913129639936) ∧ ∀ r i, i < n → Y i r < 115792089237316195423570985008687907853269984665640564039457584007913129639936) := ⟨hX, hY⟩
  have HCZ : Hid (C ≤ 1000 ∧ (∀ i, i < C → LZ i ≤ 1000) ∧ ∀ i, i < C → ∀ j, j < LZ i → EZ i j < 115792089237316195423570985008687907853269984665640564039457584007913129639936) := ⟨hC, hLZ, hEZ⟩
  have HPR : Hid (∀ (oa ob : Option Addr) (ca cb b : Nat) (Fa Fb : Nat → Value) (w' : World), GlobD w' → _) := hpr
  have HRF : Hid (∀ w', Tab w' (.slice om m cm) m F L X → _) := hrf
  have HD1 : Hid (decide (20 < m) = false) := decide_eq_false (by omega)
  have HD2 : Hid (decide (20 < n) = false) := decide_eq_false (by omega)
  have hs2' : (si == 2) = false := by simpa using hs2
  have hs3' : (si == 3) = false := by simpa using hs3
  clear hg e1 e2 e3 hm hn hl hL hL2 hX hY hC hLZ hEZ hpr hrf hs2 hs3
  go_enter Tryz.func3, Tryz.ntmps3
  go_wp2_with fail
  have hs1 : (w.alloc (.cells #[.int .u64 ((limb 0 (be) : Nat) : Int), .int .u64 ((limb 1 (be) : Nat) : Int), .int .u64 ((limb 2 (be) : Nat) : Int), .int .u64 ((limb 3 (be) : Nat) : Int)] 25)).heap.size = w.heap.size + 1 := Array.size_push ..
  obtain ⟨N11, e0⟩ : ∃ z, z = w.heap.size := ⟨_, rfl⟩
  obtain ⟨N12, e1⟩ : ∃ z, z = N11 + 1 := ⟨_, rfl⟩
  obtain ⟨w1, hw1⟩ : ∃ z : World, z = (w.alloc (.cells #[.int .u64 ((limb 0 (be) : Nat) : Int), .int .u64 ((limb 1 (be) : Nat) : Int), .int .u64 ((limb 2 (be) : Nat) : Int), .int .u64 ((limb 3 (be) : Nat) : Int)] 25)).alloc (.cells #[.int .u64 ((limb 0 (ga) : Nat) : Int), .int .u64 ((limb 1 (ga) : Nat) : Int), .int .u64 ((limb 2 (ga) : Nat) : Int), .int .u64 ((limb 3 (ga) : Nat) : Int)] 25) := ⟨_, rfl⟩
  have b11 : Blk w1 25 N11 (fun i => limb i be) := by rw [hw1]; exact (Blk.newAt _ _ _ (fun i => limb i be) e0).alloc _
  have b12 : Blk w1 25 N12 (fun i => limb i ga) := by rw [hw1]; exact Blk.newAt _ _ _ (fun i => limb i ga) (by rw [e1, e0, hs1])
  have hb1 : Below w.heap.size w w1 := by rw [hw1]; exact bAlloc (bAlloc (Below.refl _ _) _) _
  rw [← hw1]
  try rw [← e0]
  try rw [← e1]
  have l11 : w.heap.size ≤ N11 := by omega
  have l12 : w.heap.size ≤ N12 := by omega
  have n11_12 : N11 ≠ N12 := by omega
  clear hw1 e0 e1 hs1
  have HG1 : Hid (GlobD w1) := HG.out.below hb1
  refine (HAL.out w1 HG1.out).mono ?_
  rintro e w2 ⟨rfl, hbx⟩
  have hb2 := bStep hb1 hbx
  have c11 := b11.belowAll hbx; have c12 := b12.belowAll hbx
  clear b11 b12 hb1 hbx HAL HG1
  go_wp2_with fail
  refine (great16_any om m cm w2).mono ?_
  rintro e w3 ⟨rfl, e3⟩
  rw [e3, HD1.out]
  clear e3 w3
  go_wp2_with fail
  refine (great16_any on n cn w2).mono ?_
  rintro e w3 ⟨rfl, e3⟩
  rw [e3, HD2.out]
  clear e3 w3
  have HG2 : Hid (GlobD w2) := HG.out.below hb2
  have HB2 : Hid (Below w.heap.size w w2) := hb2
  have HC2 : Hid (Blk w2 25 N11 (fun i => limb i be) ∧ Blk w2 25 N12 (fun i => limb i ga)) := ⟨c11, c12⟩
  clear c11 c12 hb2
  go_wp2_with fail
  refine (copyT_any m cm om F L X (by have := HM.out; omega) (fun i hi => HM.out.2.2.2.1 i hi) w2 (HE.out.1.below HB2.out)).mono ?_
  rintro e w3 ⟨⟨va, rfl, Fa, ta⟩, hb3⟩
  have tA := ta.tab
  obtain ⟨oa, ca, rfl⟩ := tA.shape
  have h23 : Below w2.heap.size w2 w3 := hb3
  clear ta hb3 hs2' hs3'
  go_wp2_with fail
  refine (copyT_any n cn on F2 L2 Y (by have := HM.out; omega) (fun i hi => HM.out.2.2.2.2 i hi) w3 (HE.out.2.1.below (bStep HB2.out h23))).mono ?_
  rintro e w4 ⟨⟨vb, rfl, Fb, tb⟩, hb4⟩
  have tB := tb.tab
  obtain ⟨ob, cb, rfl⟩ := tB.shape
  have tA4 := tA.below hb4
  have h24 := bStep h23 hb4
  clear tb tA h23 hb4
  go_wp2_with fail
  refine (copyB_any l _ f HM.out.2.2.1 w4 (HE.out.2.2.below (bStep HB2.out h24))).mono ?_
  rintro e w5 ⟨vc, rfl, oc9, hb5⟩
  have ec9 := own_Es oc9
  obtain ⟨od, cd, rfl⟩ := ec9.shape
  have tA5 := tA4.below hb5; have tB5 := tB.below hb5
  have h25 := bStep h24 hb5
  clear oc9 tA4 tB h24 hb5
  go_wp2_with fail
  refine (purse_any l _ f HM.out.2.2.1 w5 ec9).mono ?_
  rintro e w6 ⟨⟨b, m', cm', om', rfl, lb, em', hone, hpe, hpn⟩, hb6⟩
  rw [em'] at hone hpe
  have HPU : Hid (PurseS w6 w6.heap.size b l f) := ⟨om', cm', hone, hpe, hone.lt, fun g o e => ⟨(hpn.out g o e).2, by
    rcases hpe with ⟨h, _⟩ | ⟨b2, o2, c2, hv, _, _, hl, _⟩
    · rw [e] at h; cases h
    · rw [e] at hv; cases hv; exact hl⟩⟩
  have HT5 : Hid (Tab w5 (.slice oa m ca) m Fa L X ∧ Tab w5 (.slice ob n cb) n Fb L2 Y ∧ Below w2.heap.size w2 w5 ∧ Below w5.heap.size w5 w6 ∧ w5.heap.size ≤ b) := ⟨tA5, tB5, h25, hb6, lb⟩
  have HNB : Hid (3 ≤ b) := by
    have x5 := HG2.out.ge; have x6 := h25.size
    show _ ≤ _
    omega
  have HWB : Hid (w.heap.size ≤ b ∧ b < w6.heap.size) := by
    have x5 := HB2.out.size; have x6 := h25.size; have x7 := hone.lt
    show _ ∧ _
    omega
  clear em' ec9 hone hpe hpn tA5 tB5 h25 hb6 lb
  have h26 := bStep HT5.out.2.2.1 HT5.out.2.2.2.1
  have k11 := (HC2.out.1.belowAll h26).cell; have k12 := (HC2.out.2.belowAll h26).cell
  go_wp2_with fail
  refine (HPR.out oa ob ca cb b Fa Fb w6 (HG2.out.below h26) HNB.out (HT5.out.1.below HT5.out.2.2.2.1) (HT5.out.2.1.below HT5.out.2.2.2.1) HPU.out).mono ?_
  rintro e wP ⟨⟨va, Fv, rfl, tv, hpp⟩, hku⟩
  have h5P : Below w5.heap.size w5 wP := bKept HT5.out.2.2.2.1 HT5.out.2.2.2.2 hku.toKeptQ
  have h2P := bStep HT5.out.2.2.1 h5P
  have hwP : Below w.heap.size w wP := bStep HB2.out h2P
  have HSZ : Hid (w6.heap.size ≤ wP.heap.size) := hku.2.2.2.1
  have HPP : Hid (er = 0 → ∃ bs, bs ≤ wP.heap.size ∧ PurseS wP bs b (l - kk) (fun i => f (i + kk))) := hpp
  have HTX : Hid (Tab wP (.slice oa m ca) m Fa L X ∧ Tab wP (.slice ob n cb) n Fb L2 Y ∧ Below w.heap.size w wP ∧ Tab wP va C Fv LZ EZ) := ⟨HT5.out.1.below h5P, HT5.out.2.1.below h5P, hwP, tv⟩
  clear k11 k12 hku h26 hpp h5P hwP HPU HPR
  have k11 := (HC2.out.1.belowAll h2P).cell; have k12 := (HC2.out.2.belowAll h2P).cell
  obtain ⟨ov, cv, rfl⟩ := tv.shape
  clear tv
  go_wp2_with fail
  refine (HRF.out wP (HE.out.1.below HTX.out.2.2.1) (HE.out.2.1.below HTX.out.2.2.1) (HE.out.2.2.below HTX.out.2.2.1)).mono ?_
  rintro e wR ⟨⟨vb, Fw, t, rfl, tb, ht⟩, hbR⟩
  obtain ⟨ou, cu, rfl⟩ := tb.shape
  have HTT : Hid (er = 0 → t = (kk : Int)) := ht
  clear k11 k12 h2P ht
  go_upto_region 10 with fail
  obtain ⟨N20, e20⟩ : ∃ z, z = wR.heap.size := ⟨_, rfl⟩
  have HN20 : Hid (N20 ≠ b) := by have x1 := HWB.out.2; have x2 := HSZ.out; have x3 := hbR.size; show _ ≠ _; omega
  obtain ⟨wS, hwS⟩ : ∃ z : World, z = wR.alloc (.cells #[.slice oc l cl, .int .i64 t] 37) := ⟨_, rfl⟩
  have b20 : Lay wS 37 N20 #[.slice oc l cl, .int .i64 t] := by rw [hwS]; exact Lay.newAt _ _ _ e20
  have hbS : Below wR.heap.size wR wS := by rw [hwS]; exact bAlloc (Below.refl _ _) _
  have hPS := bStep hbR hbS
  have HTS : Hid (∀ w', Below wS.heap.size wS w' → Tab w' (.slice oa m ca) m Fa L X ∧ Tab w' (.slice ob n cb) n Fb L2 Y ∧ Below w.heap.size w w' ∧ Tab w' (.slice ov C cv) C Fv LZ EZ ∧ Tab w' (.slice ou C cu) C Fw LZ EZ ∧ Tab w' (.slice om m cm) m F L X ∧ Tab w' (.slice on n cn) n F2 L2 Y) := fun w' h => by
    have h1 := bStep hPS h
    have h2 := bStep HTX.out.2.2.1 h1
    exact ⟨HTX.out.1.below h1, HTX.out.2.1.below h1, h2, HTX.out.2.2.2.below h1, tb.below (bStep hbS h), HE.out.1.below h2, HE.out.2.1.below h2⟩
  have HPS : Hid (Below wP.heap.size wP wS) := hPS
  rw [← hwS]
  try rw [← e20]
  clear hwS e20 hbS hPS hbR tb
  have q0 := b20.at (o := 0) rfl; have q1 := b20.at (o := 1) rfl
  go_wp2_with fail
  refine (sameT_any C cv cu ov ou Fv Fw LZ EZ (by have := HCZ.out.1; omega) (fun i hi => by have := HCZ.out.2.1 i hi; omega) (fun i hi j hj => HCZ.out.2.2 i hi j hj) wS (HTS.out wS (Below.refl _ _)).2.2.2.1 (HTS.out wS (Below.refl _ _)).2.2.2.2.1).mono ?_
  rintro e wa ⟨rfl, hba⟩
  go_wp2_with fail
  refine (sameT_any m ca cm oa om Fa F L X (by have := HM.out.1; omega) (fun i hi => by have := HM.out.2.2.2.1 i hi; omega) (fun i hi j hj => HXY.out.1 j i hi) wa (HTS.out wa hba).1 (HTS.out wa hba).2.2.2.2.2.1).mono ?_
  rintro e wb ⟨rfl, hbb⟩
  have hSb := bStep hba hbb
  go_wp2_with fail
  refine (sameT_any n cb cn ob on Fb F2 L2 Y (by have := HM.out.2.1; omega) (fun i hi => by have := HM.out.2.2.2.2 i hi; omega) (fun i hi j hj => HXY.out.2 j i hi) wb (HTS.out wb hSb).2.1 (HTS.out wb hSb).2.2.2.2.2.2).mono ?_
  rintro e wc ⟨rfl, hbc⟩
  have hSc := bStep hSb hbc
  have HBC : Hid (Below w.heap.size w wc) := (HTS.out wc hSc).2.2.1
  have d20 := b20.belowAll hSc
  have HPC : Hid (Below wP.heap.size wP wc) := bStep HPS.out hSc
  clear hba hbb hSb hbc hSc q0 q1 b20 HTS
  by_cases h0 : er = 0
  · obtain ⟨bs, hpu⟩ := HPP.out h0
    have htk := HTT.out h0
    subst h0
    subst htk
    have hlb : (0 : Nat) = 0 := rfl
    have hpuC : PurseS wc bs b (l - kk) (fun i => f (i + kk)) := hpu.2.below (HPC.out.mono hpu.1)
    have hl63 : l < 9223372036854775807 := by have := HM.out.2.2.1; omega
    clear hpu HPC HPP HTT hlb
    by_cases hlk : kk < l
    · have hw : 0 < l - kk := by omega
      obtain ⟨v, ev⟩ : ∃ v, v = f kk := ⟨_, rfl⟩
      have HN : Hid (Calls Tryz.prog 13 #[.pointer (some ⟨b, 0, none⟩)] wc fun e w' => e = .returned (.tuple #[.agg #[.int .u64 ((limb 0 (v) : Nat) : Int), .int .u64 ((limb 1 (v) : Nat) : Int), .int .u64 ((limb 2 (v) : Nat) : Int), .int .u64 ((limb 3 (v) : Nat) : Int)], .int .i64 0]) ∧ Kept b wc w') := (pnext_some bs b (l - kk) (fun i => f (i + kk)) hw wc hpuC).mono (by
        rintro e w' ⟨⟨h, _⟩, hk⟩
        refine ⟨?_, hk⟩
        rw [h, ev]
        simp only [Nat.zero_add])
      have hq : ∀ w, (binOp .eql 25 (.agg #[.int .u64 ((limb 0 (v) : Nat) : Int), .int .u64 ((limb 1 (v) : Nat) : Int), .int .u64 ((limb 2 (v) : Nat) : Int), .int .u64 ((limb 3 (v) : Nat) : Int)]) (.agg #[.int .u64 ((limb 0 (v) : Nat) : Int), .int .u64 ((limb 1 (v) : Nat) : Int), .int .u64 ((limb 2 (v) : Nat) : Int), .int .u64 ((limb 3 (v) : Nat) : Int)])).run Tryz.prog w = .ok (.bool true) w := fun w => eqlER v w
      obtain ⟨k1, ek1⟩ : ∃ z, z = kk + 1 := ⟨_, rfl⟩
      have HNX : Hid (∀ w', Below w.heap.size w w' → Calls Tryz.prog 14 #[.agg #[.slice oc l cl, .int .i64 (kk : Int)]] w' fun e w'' => e = .returned (.tuple #[.agg #[.slice oc l cl, .int .i64 (k1 : Int)], .agg #[.int .u64 ((limb 0 (v) : Nat) : Int), .int .u64 ((limb 1 (v) : Nat) : Int), .int .u64 ((limb 2 (v) : Nat) : Int), .int .u64 ((limb 3 (v) : Nat) : Int)], .int .i64 0]) ∧ Below w'.heap.size w' w'') := fun w' h => by
        have h := rnext_some oc l cl kk f hlk hl63 w' (HE.out.2.2.below h)
        rw [← ev, ← ek1] at h
        exact h
      clear hpuC hw hlk ev ek1 hl63
      go_wp2_with fail
      refine HN.out.mono ?_
      rintro e wd ⟨rfl, hkd⟩
      have hwd := bKept HBC.out HWB.out.1 hkd
      have d20d := d20.kept HN20.out hkd
      clear hkd d20 HN
      go_upto_region 15 with fail
      obtain ⟨N23, e23⟩ : ∃ z, z = wd.heap.size := ⟨_, rfl⟩
      obtain ⟨we, hwe⟩ : ∃ z : World, z = wd.alloc (.cells #[.int .u64 ((limb 0 (v) : Nat) : Int), .int .u64 ((limb 1 (v) : Nat) : Int), .int .u64 ((limb 2 (v) : Nat) : Int), .int .u64 ((limb 3 (v) : Nat) : Int)] 25) := ⟨_, rfl⟩
      have b23 : Blk we 25 N23 (fun i => limb i v) := by rw [hwe]; exact Blk.newAt _ _ _ (fun i => limb i v) e23
      have hbe : Below wd.heap.size wd we := by rw [hwe]; exact bAlloc (Below.refl _ _) _
      have d20e := d20d.belowAll hbe
      have hwe2 := bStep hwd hbe
      rw [← hwe]
      try rw [← e23]
      clear hwe e23 hbe d20d hwd
      have q0 := d20e.at (o := 0) rfl; have q1 := d20e.at (o := 1) rfl
      go_wp2_with fail
      refine (HNX.out we hwe2).mono ?_
      rintro e wf ⟨rfl, hbf⟩
      have b23f := b23.belowAll hbf
      have hwf := bStep hwe2 hbf
      clear b23 hbf d20e q0 q1 hwe2 HNX
      go_upto_region 16 with fail
      obtain ⟨N24, e24⟩ : ∃ z, z = wf.heap.size := ⟨_, rfl⟩
      obtain ⟨N25, e25⟩ : ∃ z, z = N24 + 1 := ⟨_, rfl⟩
      have hsz : (wf.alloc (.cells #[.slice oc l cl, .int .i64 (k1 : Int)] 37)).heap.size = wf.heap.size + 1 := Array.size_push ..
      obtain ⟨wg, hwg⟩ : ∃ z : World, z = (wf.alloc (.cells #[.slice oc l cl, .int .i64 (k1 : Int)] 37)).alloc (.cells #[.int .u64 ((limb 0 (v) : Nat) : Int), .int .u64 ((limb 1 (v) : Nat) : Int), .int .u64 ((limb 2 (v) : Nat) : Int), .int .u64 ((limb 3 (v) : Nat) : Int)] 25) := ⟨_, rfl⟩
      have b25 : Blk wg 25 N25 (fun i => limb i v) := by rw [hwg]; exact Blk.newAt _ _ _ (fun i => limb i v) (by rw [e25, e24, hsz])
      have hbg : Below wf.heap.size wf wg := by rw [hwg]; exact bAlloc (bAlloc (Below.refl _ _) _) _
      have b23g := b23f.belowAll hbg
      have hwg2 := bStep hwf hbg
      rw [← hwg]
      try rw [← e24]
      try rw [← e25]
      clear hwg e24 e25 hsz hbg hwf b23f
      have c23 := b23g.cell; have c25 := b25.cell
      go_wp2
      go_ret
      exact ⟨rfl, hwg2⟩
    · have hw : l - kk = 0 := by omega
      rw [hw] at hpuC
      have hq : ∀ w, (binOp .eql 25 (.agg #[.int .u64 0, .int .u64 0, .int .u64 0, .int .u64 0]) (.agg #[.int .u64 0, .int .u64 0, .int .u64 0, .int .u64 0])).run Tryz.prog w = .ok (.bool true) w := fun w => by have h := eqlER 0 w; rwa [zEq] at h
      have HNX : Hid (∀ w', Below w.heap.size w w' → Calls Tryz.prog 14 #[.agg #[.slice oc l cl, .int .i64 (kk : Int)]] w' fun e w'' => e = .returned (.tuple #[.agg #[.slice oc l cl, .int .i64 (kk : Int)], .agg #[.int .u64 0, .int .u64 0, .int .u64 0, .int .u64 0], .int .i64 81]) ∧ Below w'.heap.size w' w'') := fun w' h => rnext_none oc l cl kk (by omega) w'
      have HPN := pnext_none bs b (fun i => f (i + kk)) wc hpuC
      have HN2 : Hid (Calls _ _ _ wc _) := HPN
      clear hpuC hw hlk hl63 HPN
      go_wp2_with fail
      refine HN2.out.mono ?_
      rintro e wd ⟨rfl, hbd⟩
      have hwd := bStep HBC.out hbd
      have d20d := d20.belowAll hbd
      clear hbd d20 HN2
      go_upto_region 15 with fail
      obtain ⟨N23, e23⟩ : ∃ z, z = wd.heap.size := ⟨_, rfl⟩
      obtain ⟨we, hwe⟩ : ∃ z : World, z = wd.alloc (.cells #[.int .u64 0, .int .u64 0, .int .u64 0, .int .u64 0] 25) := ⟨_, rfl⟩
      have b23 : Blk we 25 N23 (fun _ => 0) := by rw [hwe]; exact Blk.newAt _ _ _ (fun _ => 0) e23
      have hbe : Below wd.heap.size wd we := by rw [hwe]; exact bAlloc (Below.refl _ _) _
      have d20e := d20d.belowAll hbe
      have hwe2 := bStep hwd hbe
      rw [← hwe]
      try rw [← e23]
      clear hwe e23 hbe d20d hwd
      have q0 := d20e.at (o := 0) rfl; have q1 := d20e.at (o := 1) rfl
      go_wp2_with fail
      refine (HNX.out we hwe2).mono ?_
      rintro e wf ⟨rfl, hbf⟩
      have b23f := b23.belowAll hbf
      have hwf := bStep hwe2 hbf
      clear b23 hbf d20e q0 q1 hwe2 HNX
      go_upto_region 16 with fail
      obtain ⟨N24, e24⟩ : ∃ z, z = wf.heap.size := ⟨_, rfl⟩
      obtain ⟨N25, e25⟩ : ∃ z, z = N24 + 1 := ⟨_, rfl⟩
      have hsz : (wf.alloc (.cells #[.slice oc l cl, .int .i64 (kk : Int)] 37)).heap.size = wf.heap.size + 1 := Array.size_push ..
      obtain ⟨wg, hwg⟩ : ∃ z : World, z = (wf.alloc (.cells #[.slice oc l cl, .int .i64 (kk : Int)] 37)).alloc (.cells #[.int .u64 0, .int .u64 0, .int .u64 0, .int .u64 0] 25) := ⟨_, rfl⟩
      have b25 : Blk wg 25 N25 (fun _ => 0) := by rw [hwg]; exact Blk.newAt _ _ _ (fun _ => 0) (by rw [e25, e24, hsz])
      have hbg : Below wf.heap.size wf wg := by rw [hwg]; exact bAlloc (bAlloc (Below.refl _ _) _) _
      have b23g := b23f.belowAll hbg
      have hwg2 := bStep hwf hbg
      rw [← hwg]
      try rw [← e24]
      try rw [← e25]
      clear hwg e24 e25 hsz hbg hwf b23f
      have c23 := b23g.cell; have c25 := b25.cell
      go_wp2
      go_ret
      exact ⟨rfl, hwg2⟩
  · have h0b : (er != 0) = true := by simpa using h0
    clear HPP HTT d20
    go_wp2
    go_ret
    exact ⟨rfl, HBC.out⟩
end Go.Proofs.YtfbfenljfdnggaaGreatDoor

/- PermuteProducts of anything. -/
namespace Go.Proofs.YtfbfenljfdnggaaGreatDoor
open Go.RowKit
theorem Es.congQ {w : World} {v : Value} {n n' : Nat} {f g : Nat → Nat} (h : Es w v n f) (e : n = n') (hg : ∀ i, i < n → f i = g i) : Es w v n' g := by
  subst e
  rcases h with h | ⟨b, o, c, hv, h1, h2, h3, h4⟩
  · exact Or.inl h
  · exact Or.inr ⟨b, o, c, hv, h1, h2, h3, fun i hi j hj => by rw [← hg i hi]; exact h4 i hi j hj⟩
theorem zlM {s be ga n u : Nat} {X Y : Nat → Nat → Nat} {pt g : Nat → Nat} (j i : Nat) : (zlP s be ga n u X Y pt j ++ coinL (fun v => addP s v 0) g 3).getD i 0 < 115792089237316195423570985008687907853269984665640564039457584007913129639936 := by
  rw [List.getD_eq_getElem?_getD]
  match h : (zlP s be ga n u X Y pt j ++ coinL (fun v => addP s v 0) g 3)[i]? with
  | none => show (0 : Nat) < _; decide
  | some y =>
    show y < _
    have hm := List.mem_of_getElem? h
    rcases List.mem_append.1 hm with h1 | h1
    · unfold zlP alL at h1
      obtain ⟨t, _, rfl⟩ := List.mem_map.1 h1
      exact alz_M (addP_M _ _ _) t
    · unfold coinL at h1
      obtain ⟨t, _, rfl⟩ := List.mem_map.1 h1
      exact addP_M _ _ _
theorem first_uniq {bad : Nat → Prop} {l j j' : Nat} (h : (∀ i, i < j → ¬ bad i) ∧ 3 * j ≤ l ∧ (bad j ∨ l < 3 * j + 3)) (h' : (∀ i, i < j' → ¬ bad i) ∧ 3 * j' ≤ l ∧ (bad j' ∨ l < 3 * j' + 3)) : j = j' := by
  rcases Nat.lt_trichotomy j j' with e | e | e
  · rcases h.2.2 with h1 | h1
    · exact absurd h1 (h'.1 j e)
    · have := h'.2.1; omega
  · exact e
  · rcases h'.2.2 with h1 | h1
    · exact absurd h1 (h.1 j' e)
    · have := h.2.1; omega
theorem rwl_map (zs : Nat → Value) (C : Nat) : rwl 1 (fun i _ => zs i) C = (List.range C).map zs := by
  unfold rwl
  rw [Nat.mul_one]
  refine List.map_congr_left (fun t _ => ?_)
  rw [Nat.div_one]
theorem nilTab (w : World) (F : Nat → Value) (L : Nat → Nat) (E : Nat → Nat → Nat) : Tab w (.slice none 0 0) 0 F L E := ⟨Or.inl ⟨rfl, rfl⟩, fun i hi => absurd hi (by omega)⟩
set_option maxHeartbeats 2000000 in
set_option maxRecDepth 20000 in
theorem pq_in (s q : Nat) (om : Option Addr) (cm : Nat) (on : Option Addr) (n cn : Nat) (oc : Option Addr) (l cl be ga : Nat) (F F2 : Nat → Value) (L L2 : Nat → Nat) (X Y : Nat → Nat → Nat) (f : Nat → Nat) (hs : s < 2) (hq : 3 ≤ q ∧ q ≤ 5) (hn : n ≤ 8) (hl : l ≤ 4398046510976) (hbe : be < 115792089237316195423570985008687907853269984665640564039457584007913129639936) (hga : ga < 115792089237316195423570985008687907853269984665640564039457584007913129639936) (hX : ∀ r i, i < n → X i r < 115792089237316195423570985008687907853269984665640564039457584007913129639936) (hY : ∀ r i, i < n → Y i r < 115792089237316195423570985008687907853269984665640564039457584007913129639936) (hf : ∀ i, i < l → f i < 115792089237316195423570985008687907853269984665640564039457584007913129639936) (hLq : ∀ i, i < n → L i = 2 ^ q) (hLq2 : ∀ i, i < n → L2 i = 2 ^ q)
    (w : World) (hg : GlobD w) (e1 : Tab w (.slice om n cm) n F L X) (e2 : Tab w (.slice on n cn) n F2 L2 Y) (e3 : Es w (.slice oc l cl) l f) :
    Calls Tryz.prog 3 #[.int .i64 (s : Int), .int .i64 (q : Int), .slice om n cm, .slice on n cn, .agg #[.int .u64 ((limb 0 (be) : Nat) : Int), .int .u64 ((limb 1 (be) : Nat) : Int), .int .u64 ((limb 2 (be) : Nat) : Int), .int .u64 ((limb 3 (be) : Nat) : Int)], .agg #[.int .u64 ((limb 0 (ga) : Nat) : Int), .int .u64 ((limb 1 (ga) : Nat) : Int), .int .u64 ((limb 2 (ga) : Nat) : Int), .int .u64 ((limb 3 (ga) : Nat) : Int)], .slice oc l cl] w fun e w' => e = .returned (.bool true) ∧ Below w.heap.size w w' := by
  have hP8 : 8 ≤ 2 ^ q ∧ 2 ^ q ≤ 32 := ⟨Nat.pow_le_pow_right (n := 2) (by decide) hq.1, Nat.pow_le_pow_right (n := 2) (by decide) hq.2⟩
  have hL : ∀ i, i < n → L i ≤ 4398046510976 := fun i hi => by rw [hLq i hi]; omega
  have hL2 : ∀ i, i < n → L2 i ≤ 4398046510976 := fun i hi => by rw [hLq2 i hi]; omega
  have hpp := fun (oa ob : Option Addr) (ca cb b : Nat) (Fa Fb : Nat → Value) (w' : World) (hg' : GlobD w') (h3 : 3 ≤ b) (tA : Tab w' (.slice oa n ca) n Fa L X) (tB : Tab w' (.slice ob n cb) n Fb L2 Y) (hp : PurseS w' w'.heap.size b l f) => pprod_in s q n b ca cb be ga l oa ob Fa Fb L L2 X Y f (by omega) hq hn hbe hga hX hY hf hLq hLq2 w' hg' h3 tA tB hp
  have hrr := fun (w' : World) (t1 : Tab w' (.slice om n cm) n F L X) (t2 : Tab w' (.slice on n cn) n F2 L2 Y) (t3 : Es w' (.slice oc l cl) l f) => rpp_in s q n cm cn l cl be ga om on oc F F2 L L2 X Y f (by omega) hq hn (by omega) hbe hga hX hY hf hLq hLq2 w' t1 t2 t3
  by_cases hfail : ∃ j, j < (n + 1) / 2 ∧ (∀ i, i < j → ¬ badP s be ga n (2 ^ q - 4) X Y i) ∧ 3 * j ≤ l ∧ (badP s be ga n (2 ^ q - 4) X Y j ∨ l < 3 * j + 3)
  · obtain ⟨j, hj, hgd⟩ := hfail
    have one : ∀ er : Int, ((badP s be ga n (2 ^ q - 4) X Y j ∧ er = 100) ∨ (¬ badP s be ga n (2 ^ q - 4) X Y j ∧ l < 3 * j + 3 ∧ er = 81)) → ∀ (j' : Nat) (er' : Int), (∀ i, i < j' → ¬ badP s be ga n (2 ^ q - 4) X Y i) → 3 * j' ≤ l → ((badP s be ga n (2 ^ q - 4) X Y j' ∧ er' = 100) ∨ (¬ badP s be ga n (2 ^ q - 4) X Y j' ∧ l < 3 * j' + 3 ∧ er' = 81)) → er' = er := by
      intro er her j' er' h1 h2 h3
      have e : j = j' := first_uniq hgd ⟨h1, h2, by rcases h3 with h | h; exact Or.inl h.1; exact Or.inr h.2.1⟩
      subst e
      rcases her with ⟨a, rfl⟩ | ⟨a, _, rfl⟩
      · rcases h3 with ⟨_, h⟩ | ⟨h, _⟩
        · exact h
        · exact absurd a h
      · rcases h3 with ⟨h, _⟩ | ⟨_, _, h⟩
        · exact absurd h a
        · exact h
    obtain ⟨er, her, hne⟩ : ∃ er : Int, ((badP s be ga n (2 ^ q - 4) X Y j ∧ er = 100) ∨ (¬ badP s be ga n (2 ^ q - 4) X Y j ∧ l < 3 * j + 3 ∧ er = 81)) ∧ er ≠ 0 := by
      by_cases h : badP s be ga n (2 ^ q - 4) X Y j
      · exact ⟨100, Or.inl ⟨h, rfl⟩, by decide⟩
      · exact ⟨81, Or.inr ⟨h, by rcases hgd.2.2 with h2 | h2; exact absurd h2 h; exact h2, rfl⟩, by decide⟩
    have no : (∀ i, i < (n + 1) / 2 → ¬ badP s be ga n (2 ^ q - 4) X Y i) → 3 * ((n + 1) / 2) ≤ l → False := fun h1 h2 => by
      rcases hgd.2.2 with h | h
      · exact h1 j hj h
      · omega
    refine pq_walk (s : Int) (q : Int) er om n cm on n cn oc l cl be ga 0 0 (fun _ => 0) (fun _ _ => 0) F F2 L L2 X Y f (by omega) (by omega) (by omega) (by omega) hl hL hL2 hX hY (by omega) (fun i hi => absurd hi (by omega)) (fun i hi => absurd hi (by omega)) (fun oa ob ca cb b Fa Fb w' hg' h3 tA tB hp => (hpp oa ob ca cb b Fa Fb w' hg' h3 tA tB hp).mono ?_) (fun w' t1 t2 t3 => (hrr w' t1 t2 t3).mono ?_) w hg e1 e2 e3
    · rintro e w2 ⟨⟨wc, _, ⟨i, er', _, h1, h2, h3, rfl⟩ | ⟨h1, h2, _⟩⟩, hku⟩
      · rw [one er her i er' h1 h2 h3]
        exact ⟨⟨_, fun _ => .slice none 0 0, rfl, nilTab _ _ _ _, fun h => absurd h hne⟩, hku⟩
      · exact (no h1 h2).elim
    · rintro e w2 ⟨⟨i, er', t, _, h1, h2, h3, rfl⟩ | ⟨h1, h2, _⟩, hb⟩
      · rw [one er her i er' h1 h2 h3]
        exact ⟨⟨_, fun _ => .slice none 0 0, t, rfl, nilTab _ _ _ _, fun h => absurd h hne⟩, hb⟩
      · exact (no h1 h2).elim
  have hlen : ∀ j, (zlP s be ga n (2 ^ q - 4) X Y (fun r => expP s (rootP s q) r) j ++ coinL (fun v => addP s v 0) (fun i => f (i + 3 * j)) 3).length = 2 ^ q := fun j => by
    rw [List.length_append, coinL_len]
    show (alL _ _ _ _ _ _).length + 3 = _
    rw [alL_len]; omega
  refine pq_walk (s : Int) (q : Int) 0 om n cm on n cn oc l cl be ga ((n + 1) / 2) (3 * ((n + 1) / 2)) (fun _ => 2 ^ q) (fun j i => (zlP s be ga n (2 ^ q - 4) X Y (fun r => expP s (rootP s q) r) j ++ coinL (fun v => addP s v 0) (fun i => f (i + 3 * j)) 3).getD i 0) F F2 L L2 X Y f (by omega) (by omega) (by omega) (by omega) hl hL hL2 hX hY (by omega) (fun i hi => by omega) (fun i hi j hj => zlM i j) (fun oa ob ca cb b Fa Fb w' hg' h3 tA tB hp => (hpp oa ob ca cb b Fa Fb w' hg' h3 tA tB hp).mono ?_) (fun w' t1 t2 t3 => (hrr w' t1 t2 t3).mono ?_) w hg e1 e2 e3
  · rintro e w2 ⟨⟨wc, _, ⟨i, er', hi, h1, h2, h3, rfl⟩ | ⟨_, _, T, zs, rfl, hlT, hS, hO, hP⟩⟩, hku⟩
    · exact absurd ⟨i, hi, h1, h2, by rcases h3 with h | h; exact Or.inl h.1; exact Or.inr h.2.1⟩ hfail
    · refine ⟨⟨_, zs, rfl, ⟨Or.inr ⟨T, 0, (n + 1) / 2, rfl, Nat.le_refl _, by unfold maxLen; omega, hS.lt, fun i hi j hj => ?_⟩, fun j hj => Or.inl ((hO j hj).es.congQ (hlen j) (fun i hi => rfl))⟩, fun _ => ⟨_, Nat.le_of_lt (Nat.lt_of_le_of_lt hlT hS.lt), hP⟩⟩, hku⟩
      have hj0 : j = 0 := by omega
      subst hj0
      have h := hS.cell i hi
      rw [show 0 + i * 1 + 0 = i by omega]
      exact h
  · rintro e w2 ⟨⟨i, er', t, hi, h1, h2, h3, rfl⟩ | ⟨_, _, v, zs, rfl, hO, hl'⟩, hb⟩
    · exact absurd ⟨i, hi, h1, h2, by rcases h3 with h | h; exact Or.inl h.1; exact Or.inr h.2.1⟩ hfail
    · rw [← rwl_map] at hO
      exact ⟨⟨v, zs, _, rfl, ⟨own_Rs hO, fun j hj => Or.inl ((hl' j hj).es.congQ (hlen j) (fun i hi => rfl))⟩, fun _ => rfl⟩, hb⟩
set_option maxRecDepth 20000 in
theorem pq_any (si k : Int) (om : Option Addr) (m cm : Nat) (on : Option Addr) (n cn : Nat) (v : Value) (l be ga : Nat) (F F2 : Nat → Value) (L L2 : Nat → Nat) (X Y : Nat → Nat → Nat) (f : Nat → Nat) (hl : l ≤ 4398046510976) (hL : ∀ i, i < m → L i ≤ 4398046510976) (hL2 : ∀ i, i < n → L2 i ≤ 4398046510976) (hbe : be < 115792089237316195423570985008687907853269984665640564039457584007913129639936) (hga : ga < 115792089237316195423570985008687907853269984665640564039457584007913129639936) (hX : ∀ r i, i < m → X i r < 115792089237316195423570985008687907853269984665640564039457584007913129639936) (hY : ∀ r i, i < n → Y i r < 115792089237316195423570985008687907853269984665640564039457584007913129639936) (hf : ∀ i, i < l → f i < 115792089237316195423570985008687907853269984665640564039457584007913129639936)
    (w : World) (hg : GlobD w) (e1 : Tab w (.slice om m cm) m F L X) (e2 : Tab w (.slice on n cn) n F2 L2 Y) (e3 : Es w v l f) :
    Calls Tryz.prog 3 #[.int .i64 si, .int .i64 k, .slice om m cm, .slice on n cn, .agg #[.int .u64 ((limb 0 (be) : Nat) : Int), .int .u64 ((limb 1 (be) : Nat) : Int), .int .u64 ((limb 2 (be) : Nat) : Int), .int .u64 ((limb 3 (be) : Nat) : Int)], .agg #[.int .u64 ((limb 0 (ga) : Nat) : Int), .int .u64 ((limb 1 (ga) : Nat) : Int), .int .u64 ((limb 2 (ga) : Nat) : Int), .int .u64 ((limb 3 (ga) : Nat) : Int)], v] w fun e w' => e = .returned (.bool true) ∧ Below w.heap.size w w' := by
  obtain ⟨oc, cl, rfl⟩ := e3.shape
  by_cases hsk : 20 < m ∨ 20 < n ∨ si = 2 ∨ si = 3
  · exact pq_skip si k om m cm on n cn oc l cl be ga hsk w hg
  have toKU : ∀ (b : Nat) (w w' : World), Below w.heap.size w w' → KU w.heap.size b w w' := fun b w w' h => (KU.refl _ _ _).below h
  have wrong : ∀ er : Int, er ≠ 0 → (∀ (oa ob : Option Addr) (ca cb b : Nat) (Fa Fb : Nat → Value) (w' : World), GlobD w' → Tab w' (.slice oa m ca) m Fa L X → Tab w' (.slice ob n cb) n Fb L2 Y → Calls Tryz.prog 10 #[.int .i64 si, .int .i64 k, .slice oa m ca, .slice ob n cb, .agg #[.int .u64 ((limb 0 (be) : Nat) : Int), .int .u64 ((limb 1 (be) : Nat) : Int), .int .u64 ((limb 2 (be) : Nat) : Int), .int .u64 ((limb 3 (be) : Nat) : Int)], .agg #[.int .u64 ((limb 0 (ga) : Nat) : Int), .int .u64 ((limb 1 (ga) : Nat) : Int), .int .u64 ((limb 2 (ga) : Nat) : Int), .int .u64 ((limb 3 (ga) : Nat) : Int)], .pointer (some ⟨b, 0, none⟩)] w' fun e w'' => e = .returned (.tuple #[.slice none 0 0, .int .i64 er]) ∧ Below w'.heap.size w' w'') →
      (∀ w', Tab w' (.slice om m cm) m F L X → Tab w' (.slice on n cn) n F2 L2 Y → Calls Tryz.prog 11 #[.int .i64 si, .int .i64 k, .slice om m cm, .slice on n cn, .agg #[.int .u64 ((limb 0 (be) : Nat) : Int), .int .u64 ((limb 1 (be) : Nat) : Int), .int .u64 ((limb 2 (be) : Nat) : Int), .int .u64 ((limb 3 (be) : Nat) : Int)], .agg #[.int .u64 ((limb 0 (ga) : Nat) : Int), .int .u64 ((limb 1 (ga) : Nat) : Int), .int .u64 ((limb 2 (ga) : Nat) : Int), .int .u64 ((limb 3 (ga) : Nat) : Int)], .agg #[.slice oc l cl, .int .i64 0]] w' fun e w'' => e = .returned (.tuple #[.agg #[.slice oc l cl, .int .i64 0], .slice none 0 0, .int .i64 er]) ∧ Below w'.heap.size w' w'') →
      Calls Tryz.prog 3 #[.int .i64 si, .int .i64 k, .slice om m cm, .slice on n cn, .agg #[.int .u64 ((limb 0 (be) : Nat) : Int), .int .u64 ((limb 1 (be) : Nat) : Int), .int .u64 ((limb 2 (be) : Nat) : Int), .int .u64 ((limb 3 (be) : Nat) : Int)], .agg #[.int .u64 ((limb 0 (ga) : Nat) : Int), .int .u64 ((limb 1 (ga) : Nat) : Int), .int .u64 ((limb 2 (ga) : Nat) : Int), .int .u64 ((limb 3 (ga) : Nat) : Int)], .slice oc l cl] w fun e w' => e = .returned (.bool true) ∧ Below w.heap.size w w' := fun er hne hp hr =>
    pq_walk si k er om m cm on n cn oc l cl be ga 0 0 (fun _ => 0) (fun _ _ => 0) F F2 L L2 X Y f (by omega) (by omega) (by omega) (by omega) hl hL hL2 hX hY (by omega) (fun i hi => absurd hi (by omega)) (fun i hi => absurd hi (by omega))
      (fun oa ob ca cb b Fa Fb w' hg' _ tA tB _ => (hp oa ob ca cb b Fa Fb w' hg' tA tB).mono (by rintro e w2 ⟨rfl, hb⟩; exact ⟨⟨_, fun _ => .slice none 0 0, rfl, nilTab _ _ _ _, fun h => absurd h hne⟩, toKU _ _ _ hb⟩))
      (fun w' t1 t2 _ => (hr w' t1 t2).mono (by rintro e w2 ⟨rfl, hb⟩; exact ⟨⟨_, fun _ => .slice none 0 0, 0, rfl, nilTab _ _ _ _, fun h => absurd h hne⟩, hb⟩)) w hg e1 e2 e3
  by_cases hsb : si < 0 ∨ 3 < si
  · exact wrong 20 (by decide) (fun oa ob ca cb b Fa Fb w' hg' _ _ => pprod_sort_out si k m n ca cb b be ga oa ob (by omega) w' hg') (fun w' t1 t2 => rpp_err si k 20 om on oc m cm n cn l cl be ga F F2 L L2 X Y w' t1 t2 (Or.inl ⟨hsb, rfl⟩))
  obtain ⟨s, rfl⟩ := Int.eq_ofNat_of_zero_le (show 0 ≤ si by omega)
  by_cases hk : k < 3 ∨ 5 < k
  · exact wrong 60 (by decide) (fun oa ob ca cb b Fa Fb w' hg' _ _ => pprod_size_out s k m n ca cb b be ga oa ob (by omega) hk w' hg') (fun w' t1 t2 => rpp_err (s : Int) k 60 om on oc m cm n cn l cl be ga F F2 L L2 X Y w' t1 t2 (Or.inr (Or.inl ⟨by omega, by omega, hk, rfl⟩)))
  obtain ⟨q, rfl⟩ := Int.eq_ofNat_of_zero_le (show 0 ≤ k by omega)
  have hq : 3 ≤ q ∧ q ≤ 5 := by omega
  by_cases hbad : n ≠ m ∨ 8 < m ∨ (¬ ∀ i, i < m → L i = 2 ^ q) ∨ ¬ ∀ i, i < n → L2 i = 2 ^ q
  · refine wrong 50 (by decide) (fun oa ob ca cb b Fa Fb w' hg' tA tB => pprod_len_out s q m n ca cb b be ga oa ob Fa Fb L L2 X Y (by omega) hq (by omega) (by omega) hbad w' hg' tA tB) (fun w' t1 t2 => rpp_err (s : Int) (q : Int) 50 om on oc m cm n cn l cl be ga F F2 L L2 X Y w' t1 t2 (Or.inr (Or.inr ⟨by omega, by omega, q, rfl, hq, ?_, rfl⟩)))
    by_cases hmn : m = n
    · refine Or.inr ?_
      rcases hbad with h | h | h | h
      · exact absurd hmn.symm h
      · exact Or.inl h
      · exact Or.inr (fun h2 => h (fun i hi => (h2 i hi).1))
      · exact Or.inr (fun h2 => h (fun i hi => (h2 i (by omega)).2))
    · exact Or.inl hmn
  have hnm : n = m := by omega
  have hLq : ∀ i, i < m → L i = 2 ^ q := Classical.byContradiction fun h => hbad (Or.inr (Or.inr (Or.inl h)))
  have hLq2 : ∀ i, i < n → L2 i = 2 ^ q := Classical.byContradiction fun h => hbad (Or.inr (Or.inr (Or.inr h)))
  have hm8 : m ≤ 8 := by omega
  clear hbad
  subst hnm
  exact pq_in s q om cm on n cn oc l cl be ga F F2 L L2 X Y f (by omega) hq hm8 hl hbe hga hX hY hf hLq hLq2 w hg e1 e2 e3
end Go.Proofs.YtfbfenljfdnggaaGreatDoor

