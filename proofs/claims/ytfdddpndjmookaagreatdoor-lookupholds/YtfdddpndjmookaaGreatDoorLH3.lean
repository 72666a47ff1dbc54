/- LookupHolds where it ends early. -/
import Derived.Test.YtfdddpndjmookaaGreatDoorMQ1
import Derived.Test.YtfdddpndjmookaaGreatDoorMU2
import Derived.Test.YtfdddpndjmookaaGreatDoorXL
import Derived.Test.YtfdddpndjmookaaGreatDoorMD3
namespace Go.Proofs.YtfdddpndjmookaaGreatDoor
open Go.RowKit

set_option maxHeartbeats 8000000 in
set_option maxRecDepth 20000 in
theorem lh_skip (si k : Int) (oa : Option Addr) (n ca : Nat) (ob : Option Addr) (nb cb : Nat) (oc : Option Addr) (m cm be ga : Nat) (h : si < 0 ∨ 1 < si ∨ k < 3 ∨ 5 < k ∨ 100 < n ∨ 100 < nb) (w : World) (hg : GlobD w) :
    Calls Tryz.prog 3 #[.int .i64 si, .int .i64 k, .slice oa n ca, .slice ob nb cb, .agg #[.int .u64 ((limb 0 (be) : Nat) : Int), .int .u64 ((limb 1 (be) : Nat) : Int), .int .u64 ((limb 2 (be) : Nat) : Int), .int .u64 ((limb 3 (be) : Nat) : Int)], .agg #[.int .u64 ((limb 0 (ga) : Nat) : Int), .int .u64 ((limb 1 (ga) : Nat) : Int), .int .u64 ((limb 2 (ga) : Nat) : Int), .int .u64 ((limb 3 (ga) : Nat) : Int)], .slice oc m cm] w fun e w' => e = .returned (.bool true) ∧ Below w.heap.size w w' := by
  have HG : Hid (GlobD w) := hg
  have HAL : Hid (∀ w, Glob w → _) := fun w hg => alive17_any w hg
  have h' : si < 0 ∨ (¬ si < 0 ∧ 1 < si) ∨ (¬ si < 0 ∧ ¬ 1 < si ∧ k < 3) ∨ (¬ si < 0 ∧ ¬ 1 < si ∧ ¬ k < 3 ∧ 5 < k) ∨ (¬ si < 0 ∧ ¬ 1 < si ∧ ¬ k < 3 ∧ ¬ 5 < k ∧ (100 : Int) < (n : Int)) ∨ (¬ si < 0 ∧ ¬ 1 < si ∧ ¬ k < 3 ∧ ¬ 5 < k ∧ ¬ (100 : Int) < (n : Int) ∧ (100 : Int) < (nb : Int)) := by omega
  clear hg h
  rcases h' with h1 | ⟨h1, h2⟩ | ⟨h1, h2, h3⟩ | ⟨h1, h2, h3, h4⟩ | ⟨h1, h2, h3, h4, h5⟩ | ⟨h1, h2, h3, h4, h5, h6⟩
  · go_enter Tryz.func3, Tryz.ntmps3
    go_wp2_with fail
    have hs1 : (w.alloc (.cells #[.int .u64 ((limb 0 (be) : Nat) : Int), .int .u64 ((limb 1 (be) : Nat) : Int), .int .u64 ((limb 2 (be) : Nat) : Int), .int .u64 ((limb 3 (be) : Nat) : Int)] 25)).heap.size = w.heap.size + 1 := Array.size_push ..
    obtain ⟨N11, e0⟩ : ∃ z, z = w.heap.size := ⟨_, rfl⟩
    obtain ⟨N12, e1⟩ : ∃ z, z = N11 + 1 := ⟨_, rfl⟩
    obtain ⟨w1, hw1⟩ : ∃ z : World, z = (w.alloc (.cells #[.int .u64 ((limb 0 (be) : Nat) : Int), .int .u64 ((limb 1 (be) : Nat) : Int), .int .u64 ((limb 2 (be) : Nat) : Int), .int .u64 ((limb 3 (be) : Nat) : Int)] 25)).alloc (.cells #[.int .u64 ((limb 0 (ga) : Nat) : Int), .int .u64 ((limb 1 (ga) : Nat) : Int), .int .u64 ((limb 2 (ga) : Nat) : Int), .int .u64 ((limb 3 (ga) : Nat) : Int)] 25) := ⟨_, rfl⟩
    have b11 : Blk w1 25 N11 (fun i => limb i be) := by rw [hw1]; exact (Blk.newAt _ _ _ (fun i => limb i be) e0).alloc _
    have b12 : Blk w1 25 N12 (fun i => limb i ga) := by rw [hw1]; exact Blk.newAt _ _ _ (fun i => limb i ga) (by rw [e1, e0, hs1])
    have hb1 : Below w.heap.size w w1 := by rw [hw1]; exact bAlloc (bAlloc (Below.refl _ _) _) _
    rw [← hw1]
    try rw [← e0]
    try rw [← e1]
    have l11 : w.heap.size ≤ N11 := by omega
    have l12 : w.heap.size ≤ N12 := by omega
    have n11_12 : N11 ≠ N12 := by omega
    clear hw1 e0 e1 hs1
    have HG1 : Hid (GlobD w1) := HG.out.below hb1
    refine (HAL.out w1 HG1.out.1).mono ?_
    rintro e w2 ⟨rfl, hbx⟩
    have hb2 := bStep hb1 hbx
    have c11 := b11.belowAll hbx; have c12 := b12.belowAll hbx
    clear b11 b12 hb1 hbx HAL HG1
    clear c11 c12
    go_wp2
    go_ret
    exact ⟨rfl, hb2⟩
  · go_enter Tryz.func3, Tryz.ntmps3
    go_wp2_with fail
    have hs1 : (w.alloc (.cells #[.int .u64 ((limb 0 (be) : Nat) : Int), .int .u64 ((limb 1 (be) : Nat) : Int), .int .u64 ((limb 2 (be) : Nat) : Int), .int .u64 ((limb 3 (be) : Nat) : Int)] 25)).heap.size = w.heap.size + 1 := Array.size_push ..
    obtain ⟨N11, e0⟩ : ∃ z, z = w.heap.size := ⟨_, rfl⟩
    obtain ⟨N12, e1⟩ : ∃ z, z = N11 + 1 := ⟨_, rfl⟩
    obtain ⟨w1, hw1⟩ : ∃ z : World, z = (w.alloc (.cells #[.int .u64 ((limb 0 (be) : Nat) : Int), .int .u64 ((limb 1 (be) : Nat) : Int), .int .u64 ((limb 2 (be) : Nat) : Int), .int .u64 ((limb 3 (be) : Nat) : Int)] 25)).alloc (.cells #[.int .u64 ((limb 0 (ga) : Nat) : Int), .int .u64 ((limb 1 (ga) : Nat) : Int), .int .u64 ((limb 2 (ga) : Nat) : Int), .int .u64 ((limb 3 (ga) : Nat) : Int)] 25) := ⟨_, rfl⟩
    have b11 : Blk w1 25 N11 (fun i => limb i be) := by rw [hw1]; exact (Blk.newAt _ _ _ (fun i => limb i be) e0).alloc _
    have b12 : Blk w1 25 N12 (fun i => limb i ga) := by rw [hw1]; exact Blk.newAt _ _ _ (fun i => limb i ga) (by rw [e1, e0, hs1])
    have hb1 : Below w.heap.size w w1 := by rw [hw1]; exact bAlloc (bAlloc (Below.refl _ _) _) _
    rw [← hw1]
    try rw [← e0]
    try rw [← e1]
    have l11 : w.heap.size ≤ N11 := by omega
    have l12 : w.heap.size ≤ N12 := by omega
    have n11_12 : N11 ≠ N12 := by omega
    clear hw1 e0 e1 hs1
    have HG1 : Hid (GlobD w1) := HG.out.below hb1
    refine (HAL.out w1 HG1.out.1).mono ?_
    rintro e w2 ⟨rfl, hbx⟩
    have hb2 := bStep hb1 hbx
    have c11 := b11.belowAll hbx; have c12 := b12.belowAll hbx
    clear b11 b12 hb1 hbx HAL HG1
    clear c11 c12
    go_wp2
    go_ret
    exact ⟨rfl, hb2⟩
  · go_enter Tryz.func3, Tryz.ntmps3
    go_wp2_with fail
    have hs1 : (w.alloc (.cells #[.int .u64 ((limb 0 (be) : Nat) : Int), .int .u64 ((limb 1 (be) : Nat) : Int), .int .u64 ((limb 2 (be) : Nat) : Int), .int .u64 ((limb 3 (be) : Nat) : Int)] 25)).heap.size = w.heap.size + 1 := Array.size_push ..
    obtain ⟨N11, e0⟩ : ∃ z, z = w.heap.size := ⟨_, rfl⟩
    obtain ⟨N12, e1⟩ : ∃ z, z = N11 + 1 := ⟨_, rfl⟩
    obtain ⟨w1, hw1⟩ : ∃ z : World, z = (w.alloc (.cells #[.int .u64 ((limb 0 (be) : Nat) : Int), .int .u64 ((limb 1 (be) : Nat) : Int), .int .u64 ((limb 2 (be) : Nat) : Int), .int .u64 ((limb 3 (be) : Nat) : Int)] 25)).alloc (.cells #[.int .u64 ((limb 0 (ga) : Nat) : Int), .int .u64 ((limb 1 (ga) : Nat) : Int), .int .u64 ((limb 2 (ga) : Nat) : Int), .int .u64 ((limb 3 (ga) : Nat) : Int)] 25) := ⟨_, rfl⟩
    have b11 : Blk w1 25 N11 (fun i => limb i be) := by rw [hw1]; exact (Blk.newAt _ _ _ (fun i => limb i be) e0).alloc _
    have b12 : Blk w1 25 N12 (fun i => limb i ga) := by rw [hw1]; exact Blk.newAt _ _ _ (fun i => limb i ga) (by rw [e1, e0, hs1])
    have hb1 : Below w.heap.size w w1 := by rw [hw1]; exact bAlloc (bAlloc (Below.refl _ _) _) _
    rw [← hw1]
    try rw [← e0]
    try rw [← e1]
    have l11 : w.heap.size ≤ N11 := by omega
    have l12 : w.heap.size ≤ N12 := by omega
    have n11_12 : N11 ≠ N12 := by omega
    clear hw1 e0 e1 hs1
    have HG1 : Hid (GlobD w1) := HG.out.below hb1
    refine (HAL.out w1 HG1.out.1).mono ?_
    rintro e w2 ⟨rfl, hbx⟩
    have hb2 := bStep hb1 hbx
    have c11 := b11.belowAll hbx; have c12 := b12.belowAll hbx
    clear b11 b12 hb1 hbx HAL HG1
    clear c11 c12
    go_wp2
    go_ret
    exact ⟨rfl, hb2⟩
  · go_enter Tryz.func3, Tryz.ntmps3
    go_wp2_with fail
    have hs1 : (w.alloc (.cells #[.int .u64 ((limb 0 (be) : Nat) : Int), .int .u64 ((limb 1 (be) : Nat) : Int), .int .u64 ((limb 2 (be) : Nat) : Int), .int .u64 ((limb 3 (be) : Nat) : Int)] 25)).heap.size = w.heap.size + 1 := Array.size_push ..
    obtain ⟨N11, e0⟩ : ∃ z, z = w.heap.size := ⟨_, rfl⟩
    obtain ⟨N12, e1⟩ : ∃ z, z = N11 + 1 := ⟨_, rfl⟩
    obtain ⟨w1, hw1⟩ : ∃ z : World, z = (w.alloc (.cells #[.int .u64 ((limb 0 (be) : Nat) : Int), .int .u64 ((limb 1 (be) : Nat) : Int), .int .u64 ((limb 2 (be) : Nat) : Int), .int .u64 ((limb 3 (be) : Nat) : Int)] 25)).alloc (.cells #[.int .u64 ((limb 0 (ga) : Nat) : Int), .int .u64 ((limb 1 (ga) : Nat) : Int), .int .u64 ((limb 2 (ga) : Nat) : Int), .int .u64 ((limb 3 (ga) : Nat) : Int)] 25) := ⟨_, rfl⟩
    have b11 : Blk w1 25 N11 (fun i => limb i be) := by rw [hw1]; exact (Blk.newAt _ _ _ (fun i => limb i be) e0).alloc _
    have b12 : Blk w1 25 N12 (fun i => limb i ga) := by rw [hw1]; exact Blk.newAt _ _ _ (fun i => limb i ga) (by rw [e1, e0, hs1])
    have hb1 : Below w.heap.size w w1 := by rw [hw1]; exact bAlloc (bAlloc (Below.refl _ _) _) _
    rw [← hw1]
    try rw [← e0]
    try rw [← e1]
    have l11 : w.heap.size ≤ N11 := by omega
    have l12 : w.heap.size ≤ N12 := by omega
    have n11_12 : N11 ≠ N12 := by omega
    clear hw1 e0 e1 hs1
    have HG1 : Hid (GlobD w1) := HG.out.below hb1
    refine (HAL.out w1 HG1.out.1).mono ?_
    rintro e w2 ⟨rfl, hbx⟩
    have hb2 := bStep hb1 hbx
    have c11 := b11.belowAll hbx; have c12 := b12.belowAll hbx
    clear b11 b12 hb1 hbx HAL HG1
    clear c11 c12
    go_wp2
    go_ret
    exact ⟨rfl, hb2⟩
  · go_enter Tryz.func3, Tryz.ntmps3
    go_wp2_with fail
    have hs1 : (w.alloc (.cells #[.int .u64 ((limb 0 (be) : Nat) : Int), .int .u64 ((limb 1 (be) : Nat) : Int), .int .u64 ((limb 2 (be) : Nat) : Int), .int .u64 ((limb 3 (be) : Nat) : Int)] 25)).heap.size = w.heap.size + 1 := Array.size_push ..
    obtain ⟨N11, e0⟩ : ∃ z, z = w.heap.size := ⟨_, rfl⟩
    obtain ⟨N12, e1⟩ : ∃ z, z = N11 + 1 := ⟨_, rfl⟩
    obtain ⟨w1, hw1⟩ : ∃ z : World, z = (w.alloc (.cells #[.int .u64 ((limb 0 (be) : Nat) : Int), .int .u64 ((limb 1 (be) : Nat) : Int), .int .u64 ((limb 2 (be) : Nat) : Int), .int .u64 ((limb 3 (be) : Nat) : Int)] 25)).alloc (.cells #[.int .u64 ((limb 0 (ga) : Nat) : Int), .int .u64 ((limb 1 (ga) : Nat) : Int), .int .u64 ((limb 2 (ga) : Nat) : Int), .int .u64 ((limb 3 (ga) : Nat) : Int)] 25) := ⟨_, rfl⟩
    have b11 : Blk w1 25 N11 (fun i => limb i be) := by rw [hw1]; exact (Blk.newAt _ _ _ (fun i => limb i be) e0).alloc _
    have b12 : Blk w1 25 N12 (fun i => limb i ga) := by rw [hw1]; exact Blk.newAt _ _ _ (fun i => limb i ga) (by rw [e1, e0, hs1])
    have hb1 : Below w.heap.size w w1 := by rw [hw1]; exact bAlloc (bAlloc (Below.refl _ _) _) _
    rw [← hw1]
    try rw [← e0]
    try rw [← e1]
    have l11 : w.heap.size ≤ N11 := by omega
    have l12 : w.heap.size ≤ N12 := by omega
    have n11_12 : N11 ≠ N12 := by omega
    clear hw1 e0 e1 hs1
    have HG1 : Hid (GlobD w1) := HG.out.below hb1
    refine (HAL.out w1 HG1.out.1).mono ?_
    rintro e w2 ⟨rfl, hbx⟩
    have hb2 := bStep hb1 hbx
    have c11 := b11.belowAll hbx; have c12 := b12.belowAll hbx
    clear b11 b12 hb1 hbx HAL HG1
    clear c11 c12
    go_wp2
    go_ret
    exact ⟨rfl, hb2⟩
  · go_enter Tryz.func3, Tryz.ntmps3
    go_wp2_with fail
    have hs1 : (w.alloc (.cells #[.int .u64 ((limb 0 (be) : Nat) : Int), .int .u64 ((limb 1 (be) : Nat) : Int), .int .u64 ((limb 2 (be) : Nat) : Int), .int .u64 ((limb 3 (be) : Nat) : Int)] 25)).heap.size = w.heap.size + 1 := Array.size_push ..
    obtain ⟨N11, e0⟩ : ∃ z, z = w.heap.size := ⟨_, rfl⟩
    obtain ⟨N12, e1⟩ : ∃ z, z = N11 + 1 := ⟨_, rfl⟩
    obtain ⟨w1, hw1⟩ : ∃ z : World, z = (w.alloc (.cells #[.int .u64 ((limb 0 (be) : Nat) : Int), .int .u64 ((limb 1 (be) : Nat) : Int), .int .u64 ((limb 2 (be) : Nat) : Int), .int .u64 ((limb 3 (be) : Nat) : Int)] 25)).alloc (.cells #[.int .u64 ((limb 0 (ga) : Nat) : Int), .int .u64 ((limb 1 (ga) : Nat) : Int), .int .u64 ((limb 2 (ga) : Nat) : Int), .int .u64 ((limb 3 (ga) : Nat) : Int)] 25) := ⟨_, rfl⟩
    have b11 : Blk w1 25 N11 (fun i => limb i be) := by rw [hw1]; exact (Blk.newAt _ _ _ (fun i => limb i be) e0).alloc _
    have b12 : Blk w1 25 N12 (fun i => limb i ga) := by rw [hw1]; exact Blk.newAt _ _ _ (fun i => limb i ga) (by rw [e1, e0, hs1])
    have hb1 : Below w.heap.size w w1 := by rw [hw1]; exact bAlloc (bAlloc (Below.refl _ _) _) _
    rw [← hw1]
    try rw [← e0]
    try rw [← e1]
    have l11 : w.heap.size ≤ N11 := by omega
    have l12 : w.heap.size ≤ N12 := by omega
    have n11_12 : N11 ≠ N12 := by omega
    clear hw1 e0 e1 hs1
    have HG1 : Hid (GlobD w1) := HG.out.below hb1
    refine (HAL.out w1 HG1.out.1).mono ?_
    rintro e w2 ⟨rfl, hbx⟩
    have hb2 := bStep hb1 hbx
    have c11 := b11.belowAll hbx; have c12 := b12.belowAll hbx
    clear b11 b12 hb1 hbx HAL HG1
    clear c11 c12
    go_wp2
    go_ret
    exact ⟨rfl, hb2⟩
set_option maxHeartbeats 8000000 in
set_option maxRecDepth 20000 in
/-- Where Permute refuses, or the lists are of another length. -/
theorem lh_early (s q : Nat) (oa : Option Addr) (n ca : Nat) (ob : Option Addr) (nb cb : Nat) (oc : Option Addr) (m cm be ga : Nat) (f g h : Nat → Nat) (hs : s < 2) (hq : 3 ≤ q ∧ q ≤ 5) (hn : n ≤ 100 ∧ nb ≤ 100) (hm : m ≤ 4398046510976) (hf : ∀ i, i < n → f i < 115792089237316195423570985008687907853269984665640564039457584007913129639936) (hgM : ∀ i, i < nb → g i < 115792089237316195423570985008687907853269984665640564039457584007913129639936) (hh : ∀ i, i < m → h i < 115792089237316195423570985008687907853269984665640564039457584007913129639936)
    (hp : ∀ (oa ob : Option Addr) (ca cb : Nat) (w : World), Glob w → Es w (.slice oa n ca) n f → Es w (.slice ob nb cb) nb g → Calls Tryz.prog 5 #[.int .i64 (s : Int), .slice oa n ca, .slice ob nb cb] w fun e w' => (∃ x y er, e = .returned (.tuple #[x, y, .int .i64 er]) ∧ (er ≠ 0 ∨ n ≠ 2 ^ q - 4)) ∧ Below w.heap.size w w')
    (w : World) (hg : GlobD w) (e1 : Es w (.slice oa n ca) n f) (e2 : Es w (.slice ob nb cb) nb g) (e3 : Es w (.slice oc m cm) m h) :
    Calls Tryz.prog 3 #[.int .i64 (s : Int), .int .i64 (q : Int), .slice oa n ca, .slice ob nb cb, .agg #[.int .u64 ((limb 0 (be) : Nat) : Int), .int .u64 ((limb 1 (be) : Nat) : Int), .int .u64 ((limb 2 (be) : Nat) : Int), .int .u64 ((limb 3 (be) : Nat) : Int)], .agg #[.int .u64 ((limb 0 (ga) : Nat) : Int), .int .u64 ((limb 1 (ga) : Nat) : Int), .int .u64 ((limb 2 (ga) : Nat) : Int), .int .u64 ((limb 3 (ga) : Nat) : Int)], .slice oc m cm] w fun e w' => e = .returned (.bool true) ∧ Below w.heap.size w w' := by
  have HG : Hid (GlobD w) := hg
  have HAL : Hid (∀ w, Glob w → _) := fun w hg => alive17_any w hg
  have HE : Hid (Es w (.slice oa n ca) n f ∧ Es w (.slice ob nb cb) nb g ∧ Es w (.slice oc m cm) m h) := ⟨e1, e2, e3⟩
  have HM : Hid ((∀ i, i < n → f i < 115792089237316195423570985008687907853269984665640564039457584007913129639936) ∧ (∀ i, i < nb → g i < 115792089237316195423570985008687907853269984665640564039457584007913129639936) ∧ n ≤ 100 ∧ nb ≤ 100 ∧ m ≤ 4398046510976 ∧ ∀ i, i < m → h i < 115792089237316195423570985008687907853269984665640564039457584007913129639936) := ⟨hf, hgM, hn.1, hn.2, hm, hh⟩
  have HP : Hid (∀ (oa ob : Option Addr) (ca cb : Nat) (w : World), Glob w → _) := hp
  have hk0 : ¬ (q : Int) < 0 := by omega
  have hP8 : 8 ≤ 2 ^ q ∧ 2 ^ q ≤ 32 := ⟨Nat.pow_le_pow_right (n := 2) (by decide) hq.1, Nat.pow_le_pow_right (n := 2) (by decide) hq.2⟩
  obtain ⟨P, eP⟩ : ∃ P, P = 2 ^ q := ⟨_, rfl⟩
  rw [← eP] at hP8
  have e1 : (2 : Int) ^ q = ((P : Nat) : Int) := by rw [eP]; simp
  have hkw : IntKind.i64.wrap ((2 : Int) ^ q) = (P : Int) := by rw [e1]; exact wrap_i64_nat P (by omega)
  have hPw : IntKind.i64.wrap (P : Int) = (P : Int) := wrap_i64_nat P (by omega)
  have hcv : IntKind.u64.wrap (q : Int) = (q : Int) := by rw [IntKind.wrap_u64]; omega
  have hmin : min q 64 = q := by omega
  obtain ⟨u, eu⟩ : ∃ u, u = P - 4 := ⟨_, rfl⟩
  have hu4 : IntKind.i64.wrap ((P : Int) - 4) = (u : Int) := by rw [show (P : Int) - 4 = (u : Int) by omega]; exact wrap_i64_nat u (by omega)
  have HPU : Hid (P = 2 ^ q ∧ u = P - 4 ∧ 8 ≤ P ∧ P ≤ 32) := ⟨eP, eu, hP8.1, hP8.2⟩
  have i0 : ¬ (s : Int) < 0 := by omega
  have i1 : ¬ (1 : Int) < (s : Int) := by omega
  have i2 : ¬ (q : Int) < 3 := by omega
  have i3 : ¬ (5 : Int) < (q : Int) := by omega
  have i4 : ¬ (100 : Int) < (n : Int) := by omega
  have i5 : ¬ (100 : Int) < (nb : Int) := by omega
  clear hg e1 e2 e3 hf hgM hh hm hn hs hq hp eP eu hP8
  go_enter Tryz.func3, Tryz.ntmps3
  go_wp2_with fail
  have hs1 : (w.alloc (.cells #[.int .u64 ((limb 0 (be) : Nat) : Int), .int .u64 ((limb 1 (be) : Nat) : Int), .int .u64 ((limb 2 (be) : Nat) : Int), .int .u64 ((limb 3 (be) : Nat) : Int)] 25)).heap.size = w.heap.size + 1 := Array.size_push ..
  obtain ⟨N11, e0⟩ : ∃ z, z = w.heap.size := ⟨_, rfl⟩
  obtain ⟨N12, e1⟩ : ∃ z, z = N11 + 1 := ⟨_, rfl⟩
  obtain ⟨w1, hw1⟩ : ∃ z : World, z = (w.alloc (.cells #[.int .u64 ((limb 0 (be) : Nat) : Int), .int .u64 ((limb 1 (be) : Nat) : Int), .int .u64 ((limb 2 (be) : Nat) : Int), .int .u64 ((limb 3 (be) : Nat) : Int)] 25)).alloc (.cells #[.int .u64 ((limb 0 (ga) : Nat) : Int), .int .u64 ((limb 1 (ga) : Nat) : Int), .int .u64 ((limb 2 (ga) : Nat) : Int), .int .u64 ((limb 3 (ga) : Nat) : Int)] 25) := ⟨_, rfl⟩
  have b11 : Blk w1 25 N11 (fun i => limb i be) := by rw [hw1]; exact (Blk.newAt _ _ _ (fun i => limb i be) e0).alloc _
  have b12 : Blk w1 25 N12 (fun i => limb i ga) := by rw [hw1]; exact Blk.newAt _ _ _ (fun i => limb i ga) (by rw [e1, e0, hs1])
  have hb1 : Below w.heap.size w w1 := by rw [hw1]; exact bAlloc (bAlloc (Below.refl _ _) _) _
  rw [← hw1]
  try rw [← e0]
  try rw [← e1]
  have l11 : w.heap.size ≤ N11 := by omega
  have l12 : w.heap.size ≤ N12 := by omega
  have n11_12 : N11 ≠ N12 := by omega
  clear hw1 e0 e1 hs1
  have HG1 : Hid (GlobD w1) := HG.out.below hb1
  refine (HAL.out w1 HG1.out.1).mono ?_
  rintro e w2 ⟨rfl, hbx⟩
  have hb2 := bStep hb1 hbx
  have c11 := b11.belowAll hbx; have c12 := b12.belowAll hbx
  clear b11 b12 hb1 hbx HAL HG1
  go_wp2_with fail
  refine (copyB_any n _ f (by have := HM.out.2.2.1; omega) w2 (HE.out.1.below hb2)).mono ?_
  rintro e w3 ⟨va, rfl, oa', hb⟩
  obtain ⟨oa3, ca3, rfl⟩ := (own_Es oa').shape
  have ea := own_Es oa'
  have hb3 := bStep hb2 hb
  have d11 := c11.belowAll hb; have d12 := c12.belowAll hb
  clear oa' hb c11 c12 hb2
  go_wp2_with fail
  refine (copyB_any nb _ g (by have := HM.out.2.2.2.1; omega) w3 (HE.out.2.1.below hb3)).mono ?_
  rintro e w4 ⟨vb, rfl, ob', hb⟩
  obtain ⟨ob4, cb4, rfl⟩ := (own_Es ob').shape
  have eb := own_Es ob'
  have ea4 := ea.below hb
  have hb4 := bStep hb3 hb
  have c11 := d11.belowAll hb; have c12 := d12.belowAll hb
  clear ob' hb d11 d12 hb3 ea
  go_wp2_with fail
  refine (HP.out oa3 ob4 ca3 cb4 w4 (HG.out.below hb4).1 ea4 eb).mono ?_
  rintro e w5 ⟨⟨x, y, er, rfl, her⟩, hb⟩
  have hb5 := bStep hb4 hb
  rw [← HPU.out.1, ← HPU.out.2.1] at her
  clear hb hb4 ea4 eb c11 c12
  by_cases h0 : er = 0
  · subst h0
    have hnu : ¬ (n : Int) = (u : Int) := by rcases her with h | h <;> omega
    have hnb : ((n : Int) != (u : Int)) = true := by simpa using hnu
    clear her
    go_wp2
    go_ret
    exact ⟨rfl, hb5⟩
  · have h0b : (er != 0) = true := by simpa using h0
    clear her
    go_wp2
    go_ret
    exact ⟨rfl, hb5⟩
end Go.Proofs.YtfdddpndjmookaaGreatDoor
