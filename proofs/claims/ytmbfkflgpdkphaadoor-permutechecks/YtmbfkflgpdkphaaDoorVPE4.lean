/- PermuteChecks' walk. -/
import Derived.Test.YtmbfkflgpdkphaaDoorVPE3
import Derived.Test.YtmbfkflgpdkphaaDoorVL1B
import Derived.Test.YtmbfkflgpdkphaaDoorVPP4
namespace Go.Proofs.YtmbfkflgpdkphaaDoor
open Go.RowKit
theorem SpV.lit {sp : Array Value} {x fi la us : Nat} (h : SpV sp x fi la us) : sp = #[.int .u64 ((limb 0 x : Nat) : Int), .int .u64 ((limb 1 x : Nat) : Int), .int .u64 ((limb 2 x : Nat) : Int), .int .u64 ((limb 3 x : Nat) : Int), .int .u64 ((limb 0 fi : Nat) : Int), .int .u64 ((limb 1 fi : Nat) : Int), .int .u64 ((limb 2 fi : Nat) : Int), .int .u64 ((limb 3 fi : Nat) : Int), .int .u64 ((limb 0 la : Nat) : Int), .int .u64 ((limb 1 la : Nat) : Int), .int .u64 ((limb 2 la : Nat) : Int), .int .u64 ((limb 3 la : Nat) : Int), .int .u64 ((limb 0 us : Nat) : Int), .int .u64 ((limb 1 us : Nat) : Int), .int .u64 ((limb 2 us : Nat) : Int), .int .u64 ((limb 3 us : Nat) : Int)] := by
  obtain ⟨hs, ⟨a0, a1, a2, a3⟩, ⟨b0, b1, b2, b3⟩, ⟨c0, c1, c2, c3⟩, ⟨d0, d1, d2, d3⟩⟩ := h
  refine Array.ext (by rw [hs]; rfl) (fun i hs1 h2 => ?_)
  have h1 := hs1
  rw [hs] at h1
  have key : sp[i]? = (#[.int .u64 ((limb 0 x : Nat) : Int), .int .u64 ((limb 1 x : Nat) : Int), .int .u64 ((limb 2 x : Nat) : Int), .int .u64 ((limb 3 x : Nat) : Int), .int .u64 ((limb 0 fi : Nat) : Int), .int .u64 ((limb 1 fi : Nat) : Int), .int .u64 ((limb 2 fi : Nat) : Int), .int .u64 ((limb 3 fi : Nat) : Int), .int .u64 ((limb 0 la : Nat) : Int), .int .u64 ((limb 1 la : Nat) : Int), .int .u64 ((limb 2 la : Nat) : Int), .int .u64 ((limb 3 la : Nat) : Int), .int .u64 ((limb 0 us : Nat) : Int), .int .u64 ((limb 1 us : Nat) : Int), .int .u64 ((limb 2 us : Nat) : Int), .int .u64 ((limb 3 us : Nat) : Int)] : Array Value)[i]? := by
    match i, h1 with
    | 0, _ => exact a0
    | 1, _ => exact a1
    | 2, _ => exact a2
    | 3, _ => exact a3
    | 4, _ => exact b0
    | 5, _ => exact b1
    | 6, _ => exact b2
    | 7, _ => exact b3
    | 8, _ => exact c0
    | 9, _ => exact c1
    | 10, _ => exact c2
    | 11, _ => exact c3
    | 12, _ => exact d0
    | 13, _ => exact d1
    | 14, _ => exact d2
    | 15, _ => exact d3
    | k + 16, h => omega
  rw [Array.getElem?_eq_getElem hs1, Array.getElem?_eq_getElem h2] at key
  exact Option.some.inj key
theorem sizSP : (Tryd.prog.info? 27).map (·.size) = some 16 := by kernel_rfl
set_option maxHeartbeats 4000000 in
set_option maxRecDepth 20000 in
theorem pck_skip (si : Int) (sp : Array Value) (oa : Option Addr) (n ca : Nat) (ob : Option Addr) (nb cb : Nat) (oz : Option Addr) (m cz be ga : Nat) (h : 20 < n ∨ 20 < nb ∨ 20 < m) (w : World) (hg : GlobD w) :
    Calls Tryd.prog 4 #[.int .i64 si, .agg sp, .slice oa n ca, .slice ob nb cb, .slice oz m cz, .agg #[.int .u64 ((limb 0 (be) : Nat) : Int), .int .u64 ((limb 1 (be) : Nat) : Int), .int .u64 ((limb 2 (be) : Nat) : Int), .int .u64 ((limb 3 (be) : Nat) : Int)], .agg #[.int .u64 ((limb 0 (ga) : Nat) : Int), .int .u64 ((limb 1 (ga) : Nat) : Int), .int .u64 ((limb 2 (ga) : Nat) : Int), .int .u64 ((limb 3 (ga) : Nat) : Int)]] w fun e w' => e = .returned (.bool true) ∧ Below w.heap.size w w' := by
  have HG : Hid (GlobD w) := hg
  have HAL : Hid (∀ w, GlobD w → _) := fun w hg => alive16_any w hg
  have h' : (20 : Int) < (n : Int) ∨ (¬ (20 : Int) < (n : Int) ∧ (20 : Int) < (nb : Int)) ∨ (¬ (20 : Int) < (n : Int) ∧ ¬ (20 : Int) < (nb : Int) ∧ (20 : Int) < (m : Int)) := by omega
  clear hg h
  rcases h' with h1 | ⟨h1, h2⟩ | ⟨h1, h2, h3⟩
  · go_enter Tryd.func4, Tryd.ntmps4
    go_wp2_with fail
    have hs1 : (w.alloc (.cells sp 27)).heap.size = w.heap.size + 1 := Array.size_push ..
    have hs2 : ((w.alloc (.cells sp 27)).alloc (.cells #[.int .u64 ((limb 0 (be) : Nat) : Int), .int .u64 ((limb 1 (be) : Nat) : Int), .int .u64 ((limb 2 (be) : Nat) : Int), .int .u64 ((limb 3 (be) : Nat) : Int)] 24)).heap.size = w.heap.size + 1 + 1 := by rw [← hs1]; exact Array.size_push ..
    obtain ⟨N8, e0⟩ : ∃ z, z = w.heap.size := ⟨_, rfl⟩
    obtain ⟨N12, e1⟩ : ∃ z, z = N8 + 1 := ⟨_, rfl⟩
    obtain ⟨N13, e2⟩ : ∃ z, z = N12 + 1 := ⟨_, rfl⟩
    obtain ⟨w1, hw1⟩ : ∃ z : World, z = ((w.alloc (.cells sp 27)).alloc (.cells #[.int .u64 ((limb 0 (be) : Nat) : Int), .int .u64 ((limb 1 (be) : Nat) : Int), .int .u64 ((limb 2 (be) : Nat) : Int), .int .u64 ((limb 3 (be) : Nat) : Int)] 24)).alloc (.cells #[.int .u64 ((limb 0 (ga) : Nat) : Int), .int .u64 ((limb 1 (ga) : Nat) : Int), .int .u64 ((limb 2 (ga) : Nat) : Int), .int .u64 ((limb 3 (ga) : Nat) : Int)] 24) := ⟨_, rfl⟩
    have b8 : Lay w1 27 N8 sp := by rw [hw1]; exact ((Lay.newAt _ _ _ e0).alloc _).alloc _
    have b12 : Blk w1 24 N12 (fun i => limb i be) := by rw [hw1]; exact (Blk.newAt _ _ _ (fun i => limb i be) (by rw [e1, e0, hs1])).alloc _
    have b13 : Blk w1 24 N13 (fun i => limb i ga) := by rw [hw1]; exact Blk.newAt _ _ _ (fun i => limb i ga) (by rw [e2, e1, e0, hs2])
    have hb1 : Below w.heap.size w w1 := by rw [hw1]; exact bAlloc (bAlloc (bAlloc (Below.refl _ _) _) _) _
    rw [← hw1]
    try rw [← e0]
    try rw [← e1]
    try rw [← e2]
    have l8 : w.heap.size ≤ N8 := by omega
    have l12 : w.heap.size ≤ N12 := by omega
    have l13 : w.heap.size ≤ N13 := by omega
    have n8_12 : N8 ≠ N12 := by omega
    have n8_13 : N8 ≠ N13 := by omega
    have n12_13 : N12 ≠ N13 := by omega
    clear hw1 e0 e1 e2 hs1 hs2
    have HG1 : Hid (GlobD w1) := HG.out.below hb1
    refine (HAL.out w1 HG1.out).mono ?_
    rintro e w2 ⟨rfl, hbx⟩
    have hb2 := bStep hb1 hbx
    clear b8 b12 b13 hb1 hbx HAL HG1
    go_wp2
    go_ret
    exact ⟨rfl, hb2⟩
  · go_enter Tryd.func4, Tryd.ntmps4
    go_wp2_with fail
    have hs1 : (w.alloc (.cells sp 27)).heap.size = w.heap.size + 1 := Array.size_push ..
    have hs2 : ((w.alloc (.cells sp 27)).alloc (.cells #[.int .u64 ((limb 0 (be) : Nat) : Int), .int .u64 ((limb 1 (be) : Nat) : Int), .int .u64 ((limb 2 (be) : Nat) : Int), .int .u64 ((limb 3 (be) : Nat) : Int)] 24)).heap.size = w.heap.size + 1 + 1 := by rw [← hs1]; exact Array.size_push ..
    obtain ⟨N8, e0⟩ : ∃ z, z = w.heap.size := ⟨_, rfl⟩
    obtain ⟨N12, e1⟩ : ∃ z, z = N8 + 1 := ⟨_, rfl⟩
    obtain ⟨N13, e2⟩ : ∃ z, z = N12 + 1 := ⟨_, rfl⟩
    obtain ⟨w1, hw1⟩ : ∃ z : World, z = ((w.alloc (.cells sp 27)).alloc (.cells #[.int .u64 ((limb 0 (be) : Nat) : Int), .int .u64 ((limb 1 (be) : Nat) : Int), .int .u64 ((limb 2 (be) : Nat) : Int), .int .u64 ((limb 3 (be) : Nat) : Int)] 24)).alloc (.cells #[.int .u64 ((limb 0 (ga) : Nat) : Int), .int .u64 ((limb 1 (ga) : Nat) : Int), .int .u64 ((limb 2 (ga) : Nat) : Int), .int .u64 ((limb 3 (ga) : Nat) : Int)] 24) := ⟨_, rfl⟩
    have b8 : Lay w1 27 N8 sp := by rw [hw1]; exact ((Lay.newAt _ _ _ e0).alloc _).alloc _
    have b12 : Blk w1 24 N12 (fun i => limb i be) := by rw [hw1]; exact (Blk.newAt _ _ _ (fun i => limb i be) (by rw [e1, e0, hs1])).alloc _
    have b13 : Blk w1 24 N13 (fun i => limb i ga) := by rw [hw1]; exact Blk.newAt _ _ _ (fun i => limb i ga) (by rw [e2, e1, e0, hs2])
    have hb1 : Below w.heap.size w w1 := by rw [hw1]; exact bAlloc (bAlloc (bAlloc (Below.refl _ _) _) _) _
    rw [← hw1]
    try rw [← e0]
    try rw [← e1]
    try rw [← e2]
    have l8 : w.heap.size ≤ N8 := by omega
    have l12 : w.heap.size ≤ N12 := by omega
    have l13 : w.heap.size ≤ N13 := by omega
    have n8_12 : N8 ≠ N12 := by omega
    have n8_13 : N8 ≠ N13 := by omega
    have n12_13 : N12 ≠ N13 := by omega
    clear hw1 e0 e1 e2 hs1 hs2
    have HG1 : Hid (GlobD w1) := HG.out.below hb1
    refine (HAL.out w1 HG1.out).mono ?_
    rintro e w2 ⟨rfl, hbx⟩
    have hb2 := bStep hb1 hbx
    clear b8 b12 b13 hb1 hbx HAL HG1
    go_wp2
    go_ret
    exact ⟨rfl, hb2⟩
  · go_enter Tryd.func4, Tryd.ntmps4
    go_wp2_with fail
    have hs1 : (w.alloc (.cells sp 27)).heap.size = w.heap.size + 1 := Array.size_push ..
    have hs2 : ((w.alloc (.cells sp 27)).alloc (.cells #[.int .u64 ((limb 0 (be) : Nat) : Int), .int .u64 ((limb 1 (be) : Nat) : Int), .int .u64 ((limb 2 (be) : Nat) : Int), .int .u64 ((limb 3 (be) : Nat) : Int)] 24)).heap.size = w.heap.size + 1 + 1 := by rw [← hs1]; exact Array.size_push ..
    obtain ⟨N8, e0⟩ : ∃ z, z = w.heap.size := ⟨_, rfl⟩
    obtain ⟨N12, e1⟩ : ∃ z, z = N8 + 1 := ⟨_, rfl⟩
    obtain ⟨N13, e2⟩ : ∃ z, z = N12 + 1 := ⟨_, rfl⟩
    obtain ⟨w1, hw1⟩ : ∃ z : World, z = ((w.alloc (.cells sp 27)).alloc (.cells #[.int .u64 ((limb 0 (be) : Nat) : Int), .int .u64 ((limb 1 (be) : Nat) : Int), .int .u64 ((limb 2 (be) : Nat) : Int), .int .u64 ((limb 3 (be) : Nat) : Int)] 24)).alloc (.cells #[.int .u64 ((limb 0 (ga) : Nat) : Int), .int .u64 ((limb 1 (ga) : Nat) : Int), .int .u64 ((limb 2 (ga) : Nat) : Int), .int .u64 ((limb 3 (ga) : Nat) : Int)] 24) := ⟨_, rfl⟩
    have b8 : Lay w1 27 N8 sp := by rw [hw1]; exact ((Lay.newAt _ _ _ e0).alloc _).alloc _
    have b12 : Blk w1 24 N12 (fun i => limb i be) := by rw [hw1]; exact (Blk.newAt _ _ _ (fun i => limb i be) (by rw [e1, e0, hs1])).alloc _
    have b13 : Blk w1 24 N13 (fun i => limb i ga) := by rw [hw1]; exact Blk.newAt _ _ _ (fun i => limb i ga) (by rw [e2, e1, e0, hs2])
    have hb1 : Below w.heap.size w w1 := by rw [hw1]; exact bAlloc (bAlloc (bAlloc (Below.refl _ _) _) _) _
    rw [← hw1]
    try rw [← e0]
    try rw [← e1]
    try rw [← e2]
    have l8 : w.heap.size ≤ N8 := by omega
    have l12 : w.heap.size ≤ N12 := by omega
    have l13 : w.heap.size ≤ N13 := by omega
    have n8_12 : N8 ≠ N12 := by omega
    have n8_13 : N8 ≠ N13 := by omega
    have n12_13 : N12 ≠ N13 := by omega
    clear hw1 e0 e1 e2 hs1 hs2
    have HG1 : Hid (GlobD w1) := HG.out.below hb1
    refine (HAL.out w1 HG1.out).mono ?_
    rintro e w2 ⟨rfl, hbx⟩
    have hb2 := bStep hb1 hbx
    clear b8 b12 b13 hb1 hbx HAL HG1
    go_wp2
    go_ret
    exact ⟨rfl, hb2⟩
set_option maxHeartbeats 4000000 in
set_option maxRecDepth 20000 in
theorem pck_walk (si : Int) (sp : Array Value) (oa : Option Addr) (n ca : Nat) (ob : Option Addr) (nb cb : Nat) (oz : Option Addr) (m cz be ga x fi la us : Nat) (A D At Nx La : Nat → Nat) (hS : SpV sp x fi la us) (hN : n ≤ 20 ∧ nb ≤ 20 ∧ m ≤ 20) (hx : x < 115792089237316195423570985008687907853269984665640564039457584007913129639936) (hfi : fi < 115792089237316195423570985008687907853269984665640564039457584007913129639936) (hla : la < 115792089237316195423570985008687907853269984665640564039457584007913129639936) (hus : us < 115792089237316195423570985008687907853269984665640564039457584007913129639936) (hbe : be < 115792089237316195423570985008687907853269984665640564039457584007913129639936) (hga : ga < 115792089237316195423570985008687907853269984665640564039457584007913129639936) (hAM : ∀ i, i < n → A i < 115792089237316195423570985008687907853269984665640564039457584007913129639936) (hDM : ∀ i, i < nb → D i < 115792089237316195423570985008687907853269984665640564039457584007913129639936) (hTM : ∀ i, i < m → At i < 115792089237316195423570985008687907853269984665640564039457584007913129639936 ∧ Nx i < 115792089237316195423570985008687907853269984665640564039457584007913129639936 ∧ La i < 115792089237316195423570985008687907853269984665640564039457584007913129639936)
    (w : World) (hg : GlobD w) (e1 : Es w (.slice oa n ca) n A) (e2 : Es w (.slice ob nb cb) nb D) (e3 : Zn w (.slice oz m cz) m At Nx La) :
    Calls Tryd.prog 4 #[.int .i64 si, .agg sp, .slice oa n ca, .slice ob nb cb, .slice oz m cz, .agg #[.int .u64 ((limb 0 (be) : Nat) : Int), .int .u64 ((limb 1 (be) : Nat) : Int), .int .u64 ((limb 2 (be) : Nat) : Int), .int .u64 ((limb 3 (be) : Nat) : Int)], .agg #[.int .u64 ((limb 0 (ga) : Nat) : Int), .int .u64 ((limb 1 (ga) : Nat) : Int), .int .u64 ((limb 2 (ga) : Nat) : Int), .int .u64 ((limb 3 (ga) : Nat) : Int)]] w fun e w' => e = .returned (.bool true) ∧ Below w.heap.size w w' := by
  have HG : Hid (GlobD w) := hg
  have HAL : Hid (∀ w, GlobD w → _) := fun w hg => alive16_any w hg
  have hN3 : n ≤ 1000 ∧ nb ≤ 1000 ∧ m ≤ 1000 := by omega
  have HP : Hid (∀ v1 v2 v3 w, Glob w → Es w v1 n A → Es w v2 nb D → Zs w v3 m At Nx La → Calls Tryd.prog 10 #[.int .i64 si, .agg sp, v1, v2, v3, .agg #[.int .u64 ((limb 0 (be) : Nat) : Int), .int .u64 ((limb 1 (be) : Nat) : Int), .int .u64 ((limb 2 (be) : Nat) : Int), .int .u64 ((limb 3 (be) : Nat) : Int)], .agg #[.int .u64 ((limb 0 (ga) : Nat) : Int), .int .u64 ((limb 1 (ga) : Nat) : Int), .int .u64 ((limb 2 (ga) : Nat) : Int), .int .u64 ((limb 3 (ga) : Nat) : Int)]] w fun e w' => (∃ v, e = .returned v ∧ Es w' v (ckA si be ga x fi la us n nb m A D At Nx La).length (fun i => (ckA si be ga x fi la us n nb m A D At Nx La).getD i 0)) ∧ Below w.heap.size w w') := fun v1 v2 v3 w hg h1 h2 h3 => pchks_any si n nb m be ga x fi la us sp A D At Nx La hN3 hS hx hfi hla hus hbe hga hAM hDM hTM v1 v2 v3 w hg h1 h2 h3
  have HR : Hid (∀ w, Es w (.slice oa n ca) n A → Es w (.slice ob nb cb) nb D → Zs w (.slice oz m cz) m At Nx La → Calls Tryd.prog 12 #[.int .i64 si, .agg sp, .slice oa n ca, .slice ob nb cb, .slice oz m cz, .agg #[.int .u64 ((limb 0 (be) : Nat) : Int), .int .u64 ((limb 1 (be) : Nat) : Int), .int .u64 ((limb 2 (be) : Nat) : Int), .int .u64 ((limb 3 (be) : Nat) : Int)], .agg #[.int .u64 ((limb 0 (ga) : Nat) : Int), .int .u64 ((limb 1 (ga) : Nat) : Int), .int .u64 ((limb 2 (ga) : Nat) : Int), .int .u64 ((limb 3 (ga) : Nat) : Int)]] w fun e w' => (∃ v, e = .returned v ∧ Es w' v (ckA si be ga x fi la us n nb m A D At Nx La).length (fun i => (ckA si be ga x fi la us n nb m A D At Nx La).getD i 0)) ∧ Below w.heap.size w w') := fun w h1 h2 h3 => rchks_any si n nb m be ga x fi la us sp A D At Nx La hN3 hS hx hfi hla hus hbe hga hAM hDM hTM _ _ _ w h1 h2 h3
  have hck := ckA_M si n nb m be ga x fi la us A D At Nx La hN3
  obtain ⟨q, eq⟩ : ∃ q, q = (ckA si be ga x fi la us n nb m A D At Nx La).length := ⟨_, rfl⟩
  obtain ⟨F, eF⟩ : ∃ F : Nat → Nat, F = fun i => (ckA si be ga x fi la us n nb m A D At Nx La).getD i 0 := ⟨_, rfl⟩
  rw [← eq, ← eF] at HP HR
  have HFM : Hid (q ≤ 4398046510976 ∧ ∀ i, i < q → F i < 115792089237316195423570985008687907853269984665640564039457584007913129639936) := ⟨by rw [eq]; omega, fun i hi => by rw [eF]; exact hck.2 i (by rw [← eq]; exact hi)⟩
  have HAD : Hid ((∀ i, i < n → A i < 115792089237316195423570985008687907853269984665640564039457584007913129639936) ∧ (∀ i, i < nb → D i < 115792089237316195423570985008687907853269984665640564039457584007913129639936) ∧ n ≤ 4398046510976 ∧ nb ≤ 4398046510976 ∧ m ≤ 1000) := ⟨hAM, hDM, by omega, by omega, by omega⟩
  have HLT : Hid (sp = #[.int .u64 ((limb 0 x : Nat) : Int), .int .u64 ((limb 1 x : Nat) : Int), .int .u64 ((limb 2 x : Nat) : Int), .int .u64 ((limb 3 x : Nat) : Int), .int .u64 ((limb 0 fi : Nat) : Int), .int .u64 ((limb 1 fi : Nat) : Int), .int .u64 ((limb 2 fi : Nat) : Int), .int .u64 ((limb 3 fi : Nat) : Int), .int .u64 ((limb 0 la : Nat) : Int), .int .u64 ((limb 1 la : Nat) : Int), .int .u64 ((limb 2 la : Nat) : Int), .int .u64 ((limb 3 la : Nat) : Int), .int .u64 ((limb 0 us : Nat) : Int), .int .u64 ((limb 1 us : Nat) : Int), .int .u64 ((limb 2 us : Nat) : Int), .int .u64 ((limb 3 us : Nat) : Int)]) := hS.lit
  have HSP : Hid ((Tryd.prog.info? 27).map (·.size) = some sp.size) := by rw [hS.1]; exact sizSP
  have HSV : Hid (SpV sp x fi la us) := hS
  have h1 : ¬ (20 : Int) < (n : Int) := by omega
  have h2 : ¬ (20 : Int) < (nb : Int) := by omega
  have h3 : ¬ (20 : Int) < (m : Int) := by omega
  have HE1 : Hid (Es w (.slice oa n ca) n A) := e1
  have HE2 : Hid (Es w (.slice ob nb cb) nb D) := e2
  have HE3 : Hid (Zn w (.slice oz m cz) m At Nx La) := e3
  clear hg hS hN hN3 hx hfi hla hus hbe hga hAM hDM hTM hck eq eF e1 e2 e3
  go_enter Tryd.func4, Tryd.ntmps4
  go_wp2_with fail
  have hs1 : (w.alloc (.cells sp 27)).heap.size = w.heap.size + 1 := Array.size_push ..
  have hs2 : ((w.alloc (.cells sp 27)).alloc (.cells #[.int .u64 ((limb 0 (be) : Nat) : Int), .int .u64 ((limb 1 (be) : Nat) : Int), .int .u64 ((limb 2 (be) : Nat) : Int), .int .u64 ((limb 3 (be) : Nat) : Int)] 24)).heap.size = w.heap.size + 1 + 1 := by rw [← hs1]; exact Array.size_push ..
  obtain ⟨N8, e0⟩ : ∃ z, z = w.heap.size := ⟨_, rfl⟩
  obtain ⟨N12, e1⟩ : ∃ z, z = N8 + 1 := ⟨_, rfl⟩
  obtain ⟨N13, e2⟩ : ∃ z, z = N12 + 1 := ⟨_, rfl⟩
  obtain ⟨w1, hw1⟩ : ∃ z : World, z = ((w.alloc (.cells sp 27)).alloc (.cells #[.int .u64 ((limb 0 (be) : Nat) : Int), .int .u64 ((limb 1 (be) : Nat) : Int), .int .u64 ((limb 2 (be) : Nat) : Int), .int .u64 ((limb 3 (be) : Nat) : Int)] 24)).alloc (.cells #[.int .u64 ((limb 0 (ga) : Nat) : Int), .int .u64 ((limb 1 (ga) : Nat) : Int), .int .u64 ((limb 2 (ga) : Nat) : Int), .int .u64 ((limb 3 (ga) : Nat) : Int)] 24) := ⟨_, rfl⟩
  have b8 : Lay w1 27 N8 sp := by rw [hw1]; exact ((Lay.newAt _ _ _ e0).alloc _).alloc _
  have b12 : Blk w1 24 N12 (fun i => limb i be) := by rw [hw1]; exact (Blk.newAt _ _ _ (fun i => limb i be) (by rw [e1, e0, hs1])).alloc _
  have b13 : Blk w1 24 N13 (fun i => limb i ga) := by rw [hw1]; exact Blk.newAt _ _ _ (fun i => limb i ga) (by rw [e2, e1, e0, hs2])
  have hb1 : Below w.heap.size w w1 := by rw [hw1]; exact bAlloc (bAlloc (bAlloc (Below.refl _ _) _) _) _
  rw [← hw1]
  try rw [← e0]
  try rw [← e1]
  try rw [← e2]
  have l8 : w.heap.size ≤ N8 := by omega
  have l12 : w.heap.size ≤ N12 := by omega
  have l13 : w.heap.size ≤ N13 := by omega
  have n8_12 : N8 ≠ N12 := by omega
  have n8_13 : N8 ≠ N13 := by omega
  have n12_13 : N12 ≠ N13 := by omega
  clear hw1 e0 e1 e2 hs1 hs2
  have HG1 : Hid (GlobD w1) := HG.out.below hb1
  refine (HAL.out w1 HG1.out).mono ?_
  rintro e w2 ⟨rfl, hbx⟩
  have hb2 := bStep hb1 hbx
  have c8 := b8.belowAll hbx; have c12 := b12.belowAll hbx; have c13 := b13.belowAll hbx
  clear b8 b12 b13 hb1 hbx HAL HG1
  go_wp2_with fail
  refine (copyB_any n _ A HAD.out.2.2.1 w2 (HE1.out.below hb2)).mono ?_
  rintro e w3 ⟨v1, rfl, ho1, hbx⟩
  have hb3 := bStep hb2 hbx
  have k8 := c8.belowAll hbx; have k12 := c12.belowAll hbx; have k13 := c13.belowAll hbx
  have HX1 : Hid (Es w3 v1 n A) := own_Es ho1
  clear c8 c12 c13 hb2 hbx ho1
  go_wp2_with fail
  refine (copyB_any nb _ D HAD.out.2.2.2.1 w3 (HE2.out.below hb3)).mono ?_
  rintro e w4 ⟨v2, rfl, ho2, hbx⟩
  have hb4 := bStep hb3 hbx
  have c8 := k8.belowAll hbx; have c12 := k12.belowAll hbx; have c13 := k13.belowAll hbx
  have HY1 : Hid (Es w4 v1 n A) := HX1.out.below hbx
  have HY2 : Hid (Es w4 v2 nb D) := own_Es ho2
  have HY3 : Hid (Zn w4 (.slice oz m cz) m At Nx La) := HE3.out.below hb4
  have HG4 : Hid (Glob w4) := (HG.out.below hb4).1
  clear k8 k12 k13 hb3 hbx ho2 HX1
  go_upto_region 7 with fail
  refine wp_region_Z (fun w' => Below w4.heap.size w4 w') 99 (by kernel_rfl) ?_
  obtain ⟨wD, hD⟩ : ∃ x : World, x = w4.drew := ⟨_, rfl⟩
  rw [← hD]
  have hp0_0 : Below w4.heap.size w4 wD := by rw [hD]; exact (Below.refl _ _).drew
  have hlow0 : Below w4.heap.size w4 wD := by rw [hD]; exact (Below.refl _ _).drew
  clear hD
  refine wpZ_take (i := 0) (v := .int .i64 si) 37 rfl rfl (by kernel_rfl) (by kernel_rfl) (by kernel_rfl) (Or.inr (by decide)) (fun _ _ _ h => h) (Or.inl ⟨by rfl, fun w hSw => by go_simp⟩) hp0_0 ?_
  simp only [Act.put, List.setIfInBounds_toArray]
  dsimp only [List.set_cons_zero, List.set_cons_succ]
  refine wpZ_take (i := 1) (v := .agg sp) 38 rfl rfl (by kernel_rfl) (by kernel_rfl) (by kernel_rfl) (Or.inr (by decide)) (fun _ _ _ h => h) (yLd undSP rfl _ rfl N8 rfl sp HSP.out (fun w hSw => c8.belowAll hSw)) hp0_0 ?_
  simp only [Act.put, List.setIfInBounds_toArray]
  dsimp only [List.set_cons_zero, List.set_cons_succ]
  refine wpZ_take (i := 2) (v := v1) 39 rfl rfl (by kernel_rfl) (by kernel_rfl) (by kernel_rfl) (Or.inr (by decide)) (fun _ _ _ h => h) (Or.inl ⟨by rfl, fun w hSw => by go_simp⟩) hp0_0 ?_
  simp only [Act.put, List.setIfInBounds_toArray]
  dsimp only [List.set_cons_zero, List.set_cons_succ]
  refine wpZ_take (i := 3) (v := v2) 40 rfl rfl (by kernel_rfl) (by kernel_rfl) (by kernel_rfl) (Or.inr (by decide)) (fun _ _ _ h => h) (Or.inl ⟨by rfl, fun w hSw => by go_simp⟩) hp0_0 ?_
  simp only [Act.put, List.setIfInBounds_toArray]
  dsimp only [List.set_cons_zero, List.set_cons_succ]
  refine wpZ_take (i := 5) (v := .slice oz m cz) 42 rfl rfl (by kernel_rfl) (by kernel_rfl) (by kernel_rfl) (Or.inr (by decide)) (fun _ _ _ h => h) (Or.inl ⟨by rfl, fun w hSw => by go_simp⟩) hp0_0 ?_
  simp only [Act.put, List.setIfInBounds_toArray]
  dsimp only [List.set_cons_zero, List.set_cons_succ]
  refine wpZ_take (i := 7) (v := .agg #[.int .u64 ((limb 0 (be) : Nat) : Int), .int .u64 ((limb 1 (be) : Nat) : Int), .int .u64 ((limb 2 (be) : Nat) : Int), .int .u64 ((limb 3 (be) : Nat) : Int)]) 44 rfl rfl (by kernel_rfl) (by kernel_rfl) (by kernel_rfl) (Or.inr (by decide)) (fun _ _ _ h => h) (Or.inl ⟨by rfl, fun w hSw => by (have qq := (c12.belowAll hSw).cell; clear hSw; go_simp)⟩) hp0_0 ?_
  simp only [Act.put, List.setIfInBounds_toArray]
  dsimp only [List.set_cons_zero, List.set_cons_succ]
  refine wpZ_take (i := 8) (v := .agg #[.int .u64 ((limb 0 (ga) : Nat) : Int), .int .u64 ((limb 1 (ga) : Nat) : Int), .int .u64 ((limb 2 (ga) : Nat) : Int), .int .u64 ((limb 3 (ga) : Nat) : Int)]) 45 rfl rfl (by kernel_rfl) (by kernel_rfl) (by kernel_rfl) (Or.inr (by decide)) (fun _ _ _ h => h) (Or.inl ⟨by rfl, fun w hSw => by (have qq := (c13.belowAll hSw).cell; clear hSw; go_simp)⟩) hp0_0 ?_
  simp only [Act.put, List.setIfInBounds_toArray]
  dsimp only [List.set_cons_zero, List.set_cons_succ]
  refine wpZ_one (i := 4) (by kernel_rfl) rfl (fun K hK => ?_)
  go_simp
  obtain ⟨wG, hwG⟩ : ∃ z : World, z = wD.alloc (.cells #[] 62) := ⟨_, rfl⟩
  obtain ⟨NF, eNF⟩ : ∃ z, z = wD.heap.size := ⟨_, rfl⟩
  have ownG : wG.ownsRow NF 62 12 (.slice (some ⟨NF, 0, none⟩) 0 0) 0 [] := by rw [hwG, eNF]; exact ⟨rfl, Or.inr ⟨_, 0, #[], rfl, Nat.le_refl _, new_blockE _ _, Nat.le_refl _, by decide, rfl, rfl⟩⟩
  have hbG : Below wD.heap.size wD wG := by rw [hwG]; exact bAlloc (Below.refl _ _) _
  have lNF : w4.heap.size ≤ NF := by rw [eNF]; exact hlow0.size
  have lNG : NF ≤ wG.heap.size := by rw [eNF]; exact hbG.size
  have lowG := bStep hlow0 hbG
  rw [← hwG, ← eNF]
  refine hK.out _ _ (fun _ => lowG) ?_
  clear hK K hwG eNF hbG
  refine wpZ_one (i := 6) (by kernel_rfl) rfl (fun K hK => ?_)
  rw [if_pos (show Region.wanted _ _ = true from rfl)]
  refine wp_appZ wG _ _ rfl NF (.slice (some ⟨NF, 0, none⟩) 0 0) (.slice oz m cz) m At Nx La rfl ownG rfl (HY3.out.below lowG) HAD.out.2.2.2.2 lNG ?_
  intro v6 wH hz6 hbH
  have lowH : Below w4.heap.size w4 wH := lowG.trans (hbH.mono lNF)
  refine hK.out _ _ (fun _ => lowH) ?_
  clear hK K ownG hbH lNF lNG
  refine wpZ_one (i := 9) (by kernel_rfl) rfl (fun K hK => ?_)
  go_simp
  refine (HP.out v1 v2 v6 wH (HG4.out.below lowH) (HY1.out.below lowH) (HY2.out.below lowH) hz6).mono ?_
  rintro e w5 ⟨⟨va, rfl, ea⟩, hb5⟩
  have low5 := bStep lowH hb5
  have HEA : Hid (Es w5 va q F) := ea
  go_wp2_with fail
  refine hK.out _ _ (fun _ => low5) ?_
  clear hK K hb5 ea hz6
  refine wpZ_take (i := 10) (v := va) 17 rfl rfl (by kernel_rfl) (by kernel_rfl) (by kernel_rfl) (Or.inr (by decide)) (fun _ _ _ h => h) (Or.inl ⟨by rfl, fun w hSw => by go_simp⟩) low5 ?_
  simp only [Act.put, List.setIfInBounds_toArray]
  dsimp only [List.set_cons_zero, List.set_cons_succ]
  refine wpZ_done (by kernel_rfl) ?_ _
  have hb5 := bStep hb4 low5
  have z8 := c8.belowAll low5; have z12 := c12.belowAll low5; have z13 := c13.belowAll low5
  have HZ1 : Hid (Es w5 v1 n A) := HY1.out.below low5
  have HZ2 : Hid (Es w5 v2 nb D) := HY2.out.below low5
  have g12 := z12.cell; have g13 := z13.cell
  have s0 := z8.at HSV.out.2.1.1
  have s1 := z8.at HSV.out.2.1.2.1
  have s2 := z8.at HSV.out.2.1.2.2.1
  have s3 := z8.at HSV.out.2.1.2.2.2
  have s4 := z8.at HSV.out.2.2.1.1
  have s5 := z8.at HSV.out.2.2.1.2.1
  have s6 := z8.at HSV.out.2.2.1.2.2.1
  have s7 := z8.at HSV.out.2.2.1.2.2.2
  have s8 := z8.at HSV.out.2.2.2.1.1
  have s9 := z8.at HSV.out.2.2.2.1.2.1
  have s10 := z8.at HSV.out.2.2.2.1.2.2.1
  have s11 := z8.at HSV.out.2.2.2.1.2.2.2
  have s12 := z8.at HSV.out.2.2.2.2.1
  have s13 := z8.at HSV.out.2.2.2.2.2.1
  have s14 := z8.at HSV.out.2.2.2.2.2.2.1
  have s15 := z8.at HSV.out.2.2.2.2.2.2.2
  clear c8 c12 c13 hb4 low5 z8 z12 z13 HY1 HY2 HY3 hp0_0 hlow0 lowG lowH
  go_wp2_with fail
  rw [← HLT.out]
  refine (HR.out w5 (HE1.out.below hb5) (HE2.out.below hb5) (HE3.out.below hb5).zs).mono ?_
  rintro e w6 ⟨⟨vb, rfl, eb⟩, hbx⟩
  have hb6 := bStep hb5 hbx
  have HEB : Hid (Es w6 vb q F) := eb
  have HEA6 : Hid (Es w6 va q F) := HEA.out.below hbx
  have HZ16 : Hid (Es w6 v1 n A) := HZ1.out.below hbx
  have HZ26 : Hid (Es w6 v2 nb D) := HZ2.out.below hbx
  clear eb hbx hb5 HEA HZ1 HZ2 g12 g13 s0 s1 s2 s3 s4 s5 s6 s7 s8 s9 s10 s11 s12 s13 s14 s15
  go_wp2_with fail
  refine (sameB_self _ _ q F HFM.out.1 HFM.out.2 w6 HEA6.out HEB.out).mono ?_
  rintro e w7 ⟨rfl, hbx⟩
  have hb7 := bStep hb6 hbx
  have HZ17 : Hid (Es w7 v1 n A) := HZ16.out.below hbx
  have HZ27 : Hid (Es w7 v2 nb D) := HZ26.out.below hbx
  clear hbx hb6 HZ16 HZ26
  go_wp2_with fail
  refine (sameB_self _ _ n A HAD.out.2.2.1 HAD.out.1 w7 HZ17.out (HE1.out.below hb7)).mono ?_
  rintro e w8 ⟨rfl, hbx⟩
  have hb8 := bStep hb7 hbx
  have HZ28 : Hid (Es w8 v2 nb D) := HZ27.out.below hbx
  clear hbx hb7 HZ17 HZ27
  go_wp2_with fail
  refine (sameB_self _ _ nb D HAD.out.2.2.2.1 HAD.out.2.1 w8 HZ28.out (HE2.out.below hb8)).mono ?_
  rintro e w9 ⟨rfl, hbx⟩
  have hb9 := bStep hb8 hbx
  clear hbx hb8
  go_wp2
  go_ret
  exact ⟨rfl, hb9⟩
/-- PermuteChecks of anything. -/
theorem pck_all (si : Int) (sp : Array Value) (oa : Option Addr) (n ca : Nat) (ob : Option Addr) (nb cb : Nat) (oz : Option Addr) (m cz be ga x fi la us : Nat) (A D At Nx La : Nat → Nat) (hS : SpV sp x fi la us) (hx : x < 115792089237316195423570985008687907853269984665640564039457584007913129639936) (hfi : fi < 115792089237316195423570985008687907853269984665640564039457584007913129639936) (hla : la < 115792089237316195423570985008687907853269984665640564039457584007913129639936) (hus : us < 115792089237316195423570985008687907853269984665640564039457584007913129639936) (hbe : be < 115792089237316195423570985008687907853269984665640564039457584007913129639936) (hga : ga < 115792089237316195423570985008687907853269984665640564039457584007913129639936) (hAM : ∀ i, i < n → A i < 115792089237316195423570985008687907853269984665640564039457584007913129639936) (hDM : ∀ i, i < nb → D i < 115792089237316195423570985008687907853269984665640564039457584007913129639936) (hTM : ∀ i, i < m → At i < 115792089237316195423570985008687907853269984665640564039457584007913129639936 ∧ Nx i < 115792089237316195423570985008687907853269984665640564039457584007913129639936 ∧ La i < 115792089237316195423570985008687907853269984665640564039457584007913129639936)
    (w : World) (hg : GlobD w) (e1 : Es w (.slice oa n ca) n A) (e2 : Es w (.slice ob nb cb) nb D) (e3 : Zn w (.slice oz m cz) m At Nx La) :
    Calls Tryd.prog 4 #[.int .i64 si, .agg sp, .slice oa n ca, .slice ob nb cb, .slice oz m cz, .agg #[.int .u64 ((limb 0 (be) : Nat) : Int), .int .u64 ((limb 1 (be) : Nat) : Int), .int .u64 ((limb 2 (be) : Nat) : Int), .int .u64 ((limb 3 (be) : Nat) : Int)], .agg #[.int .u64 ((limb 0 (ga) : Nat) : Int), .int .u64 ((limb 1 (ga) : Nat) : Int), .int .u64 ((limb 2 (ga) : Nat) : Int), .int .u64 ((limb 3 (ga) : Nat) : Int)]] w fun e w' => e = .returned (.bool true) ∧ Below w.heap.size w w' := by
  by_cases h : 20 < n ∨ 20 < nb ∨ 20 < m
  · exact pck_skip si sp oa n ca ob nb cb oz m cz be ga h w hg
  exact pck_walk si sp oa n ca ob nb cb oz m cz be ga x fi la us A D At Nx La hS (by omega) hx hfi hla hus hbe hga hAM hDM hTM w hg e1 e2 e3
theorem pck_any (si : Int) (sp : Array Value) (v1 v2 v3 : Value) (n nb m be ga x fi la us : Nat) (A D At Nx La : Nat → Nat) (hS : SpV sp x fi la us) (hx : x < 115792089237316195423570985008687907853269984665640564039457584007913129639936) (hfi : fi < 115792089237316195423570985008687907853269984665640564039457584007913129639936) (hla : la < 115792089237316195423570985008687907853269984665640564039457584007913129639936) (hus : us < 115792089237316195423570985008687907853269984665640564039457584007913129639936) (hbe : be < 115792089237316195423570985008687907853269984665640564039457584007913129639936) (hga : ga < 115792089237316195423570985008687907853269984665640564039457584007913129639936) (hAM : ∀ i, i < n → A i < 115792089237316195423570985008687907853269984665640564039457584007913129639936) (hDM : ∀ i, i < nb → D i < 115792089237316195423570985008687907853269984665640564039457584007913129639936) (hTM : ∀ i, i < m → At i < 115792089237316195423570985008687907853269984665640564039457584007913129639936 ∧ Nx i < 115792089237316195423570985008687907853269984665640564039457584007913129639936 ∧ La i < 115792089237316195423570985008687907853269984665640564039457584007913129639936)
    (w : World) (hg : GlobD w) (e1 : Es w v1 n A) (e2 : Es w v2 nb D) (e3 : Zn w v3 m At Nx La) :
    Calls Tryd.prog 4 #[.int .i64 si, .agg sp, v1, v2, v3, .agg #[.int .u64 ((limb 0 (be) : Nat) : Int), .int .u64 ((limb 1 (be) : Nat) : Int), .int .u64 ((limb 2 (be) : Nat) : Int), .int .u64 ((limb 3 (be) : Nat) : Int)], .agg #[.int .u64 ((limb 0 (ga) : Nat) : Int), .int .u64 ((limb 1 (ga) : Nat) : Int), .int .u64 ((limb 2 (ga) : Nat) : Int), .int .u64 ((limb 3 (ga) : Nat) : Int)]] w fun e w' => e = .returned (.bool true) ∧ Below w.heap.size w w' := by
  obtain ⟨oa, ca, rfl⟩ := e1.shape
  obtain ⟨ob, cb, rfl⟩ := e2.shape
  obtain ⟨oz, cz, rfl⟩ := e3.shape
  exact pck_all si sp oa n ca ob nb cb oz m cz be ga x fi la us A D At Nx La hS hx hfi hla hus hbe hga hAM hDM hTM w hg e1 e2 e3
end Go.Proofs.YtmbfkflgpdkphaaDoor
