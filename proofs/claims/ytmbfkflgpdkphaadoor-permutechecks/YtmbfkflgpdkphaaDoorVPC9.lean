/- The reference's Checks, what is refused. -/
import Derived.Test.YtmbfkflgpdkphaaDoorVPC6
import Derived.Test.YtmbfkflgpdkphaaDoorVPC4
namespace Go.Proofs.YtmbfkflgpdkphaaDoor
open Go.RowKit
set_option maxHeartbeats 4000000 in
set_option maxRecDepth 20000 in
theorem rchks_s1 (si : Int) (sp : Array Value) (oa ob oz : Option Addr) (n nb m ca cb cz be ga : Nat) (h : si < 0) (w : World) :
    Calls Tryd.prog 12 #[.int .i64 si, .agg sp, .slice oa n ca, .slice ob nb cb, .slice oz m cz, .agg #[.int .u64 ((limb 0 (be) : Nat) : Int), .int .u64 ((limb 1 (be) : Nat) : Int), .int .u64 ((limb 2 (be) : Nat) : Int), .int .u64 ((limb 3 (be) : Nat) : Int)], .agg #[.int .u64 ((limb 0 (ga) : Nat) : Int), .int .u64 ((limb 1 (ga) : Nat) : Int), .int .u64 ((limb 2 (ga) : Nat) : Int), .int .u64 ((limb 3 (ga) : Nat) : Int)]] w fun e w' => (∃ v, e = .returned v ∧ Es w' v 0 (fun _ => 0)) ∧ Below w.heap.size w w' := by
  go_enter Tryd.func12, Tryd.ntmps12
  go_upto_region 2 with fail
  have hs1 : (w.alloc (.cells sp 27)).heap.size = w.heap.size + 1 := Array.size_push ..
  have hs2 : ((w.alloc (.cells sp 27)).alloc (.cells #[.int .u64 ((limb 0 (be) : Nat) : Int), .int .u64 ((limb 1 (be) : Nat) : Int), .int .u64 ((limb 2 (be) : Nat) : Int), .int .u64 ((limb 3 (be) : Nat) : Int)] 24)).heap.size = w.heap.size + 1 + 1 := by rw [← hs1]; exact Array.size_push ..
  have hs3 : (((w.alloc (.cells sp 27)).alloc (.cells #[.int .u64 ((limb 0 (be) : Nat) : Int), .int .u64 ((limb 1 (be) : Nat) : Int), .int .u64 ((limb 2 (be) : Nat) : Int), .int .u64 ((limb 3 (be) : Nat) : Int)] 24)).alloc (.cells #[.int .u64 ((limb 0 (ga) : Nat) : Int), .int .u64 ((limb 1 (ga) : Nat) : Int), .int .u64 ((limb 2 (ga) : Nat) : Int), .int .u64 ((limb 3 (ga) : Nat) : Int)] 24)).heap.size = w.heap.size + 1 + 1 + 1 := by rw [← hs2]; exact Array.size_push ..
  obtain ⟨NL, eL⟩ : ∃ z, z = w.heap.size + 1 + 1 + 1 := ⟨_, rfl⟩
  obtain ⟨w1, hw1⟩ : ∃ z : World, z = (((w.alloc (.cells sp 27)).alloc (.cells #[.int .u64 ((limb 0 (be) : Nat) : Int), .int .u64 ((limb 1 (be) : Nat) : Int), .int .u64 ((limb 2 (be) : Nat) : Int), .int .u64 ((limb 3 (be) : Nat) : Int)] 24)).alloc (.cells #[.int .u64 ((limb 0 (ga) : Nat) : Int), .int .u64 ((limb 1 (ga) : Nat) : Int), .int .u64 ((limb 2 (ga) : Nat) : Int), .int .u64 ((limb 3 (ga) : Nat) : Int)] 24)).alloc (.cells #[] 24) := ⟨_, rfl⟩
  have hb1 : Below w.heap.size w w1 := by rw [hw1]; exact bAlloc (bAlloc (bAlloc (bAlloc (Below.refl _ _) _) _) _) _
  have lNL : NL < w1.heap.size := by
    have h4 : w1.heap.size = w.heap.size + 1 + 1 + 1 + 1 := by rw [hw1, ← hs3]; exact Array.size_push ..
    omega
  rw [← hw1]
  try rw [← eL]
  clear hw1 eL hs1 hs2 hs3
  go_wp2
  refine bodyPost_ret (v := .slice (some ⟨NL, 0, none⟩) 0 0) (by simp [results, Tryd.results12, go_sem]) rfl ⟨⟨_, rfl, Or.inr ⟨NL, 0, 0, rfl, Nat.le_refl _, Nat.zero_le _, lNL, fun i hi => by omega⟩⟩, hb1⟩
set_option maxHeartbeats 4000000 in
set_option maxRecDepth 20000 in
theorem rchks_s2 (si : Int) (sp : Array Value) (oa ob oz : Option Addr) (n nb m ca cb cz be ga : Nat) (h0 : ¬ si < 0) (h : 3 < si) (w : World) :
    Calls Tryd.prog 12 #[.int .i64 si, .agg sp, .slice oa n ca, .slice ob nb cb, .slice oz m cz, .agg #[.int .u64 ((limb 0 (be) : Nat) : Int), .int .u64 ((limb 1 (be) : Nat) : Int), .int .u64 ((limb 2 (be) : Nat) : Int), .int .u64 ((limb 3 (be) : Nat) : Int)], .agg #[.int .u64 ((limb 0 (ga) : Nat) : Int), .int .u64 ((limb 1 (ga) : Nat) : Int), .int .u64 ((limb 2 (ga) : Nat) : Int), .int .u64 ((limb 3 (ga) : Nat) : Int)]] w fun e w' => (∃ v, e = .returned v ∧ Es w' v 0 (fun _ => 0)) ∧ Below w.heap.size w w' := by
  go_enter Tryd.func12, Tryd.ntmps12
  go_upto_region 2 with fail
  have hs1 : (w.alloc (.cells sp 27)).heap.size = w.heap.size + 1 := Array.size_push ..
  have hs2 : ((w.alloc (.cells sp 27)).alloc (.cells #[.int .u64 ((limb 0 (be) : Nat) : Int), .int .u64 ((limb 1 (be) : Nat) : Int), .int .u64 ((limb 2 (be) : Nat) : Int), .int .u64 ((limb 3 (be) : Nat) : Int)] 24)).heap.size = w.heap.size + 1 + 1 := by rw [← hs1]; exact Array.size_push ..
  have hs3 : (((w.alloc (.cells sp 27)).alloc (.cells #[.int .u64 ((limb 0 (be) : Nat) : Int), .int .u64 ((limb 1 (be) : Nat) : Int), .int .u64 ((limb 2 (be) : Nat) : Int), .int .u64 ((limb 3 (be) : Nat) : Int)] 24)).alloc (.cells #[.int .u64 ((limb 0 (ga) : Nat) : Int), .int .u64 ((limb 1 (ga) : Nat) : Int), .int .u64 ((limb 2 (ga) : Nat) : Int), .int .u64 ((limb 3 (ga) : Nat) : Int)] 24)).heap.size = w.heap.size + 1 + 1 + 1 := by rw [← hs2]; exact Array.size_push ..
  obtain ⟨NL, eL⟩ : ∃ z, z = w.heap.size + 1 + 1 + 1 := ⟨_, rfl⟩
  obtain ⟨w1, hw1⟩ : ∃ z : World, z = (((w.alloc (.cells sp 27)).alloc (.cells #[.int .u64 ((limb 0 (be) : Nat) : Int), .int .u64 ((limb 1 (be) : Nat) : Int), .int .u64 ((limb 2 (be) : Nat) : Int), .int .u64 ((limb 3 (be) : Nat) : Int)] 24)).alloc (.cells #[.int .u64 ((limb 0 (ga) : Nat) : Int), .int .u64 ((limb 1 (ga) : Nat) : Int), .int .u64 ((limb 2 (ga) : Nat) : Int), .int .u64 ((limb 3 (ga) : Nat) : Int)] 24)).alloc (.cells #[] 24) := ⟨_, rfl⟩
  have hb1 : Below w.heap.size w w1 := by rw [hw1]; exact bAlloc (bAlloc (bAlloc (bAlloc (Below.refl _ _) _) _) _) _
  have lNL : NL < w1.heap.size := by
    have h4 : w1.heap.size = w.heap.size + 1 + 1 + 1 + 1 := by rw [hw1, ← hs3]; exact Array.size_push ..
    omega
  rw [← hw1]
  try rw [← eL]
  clear hw1 eL hs1 hs2 hs3
  go_wp2
  refine bodyPost_ret (v := .slice (some ⟨NL, 0, none⟩) 0 0) (by simp [results, Tryd.results12, go_sem]) rfl ⟨⟨_, rfl, Or.inr ⟨NL, 0, 0, rfl, Nat.le_refl _, Nat.zero_le _, lNL, fun i hi => by omega⟩⟩, hb1⟩
set_option maxHeartbeats 4000000 in
set_option maxRecDepth 20000 in
theorem rchks_nb (si : Int) (sp : Array Value) (oa ob oz : Option Addr) (n nb m ca cb cz be ga : Nat) (h0 : ¬ si < 0) (h3 : ¬ 3 < si) (h : nb ≠ n) (w : World) :
    Calls Tryd.prog 12 #[.int .i64 si, .agg sp, .slice oa n ca, .slice ob nb cb, .slice oz m cz, .agg #[.int .u64 ((limb 0 (be) : Nat) : Int), .int .u64 ((limb 1 (be) : Nat) : Int), .int .u64 ((limb 2 (be) : Nat) : Int), .int .u64 ((limb 3 (be) : Nat) : Int)], .agg #[.int .u64 ((limb 0 (ga) : Nat) : Int), .int .u64 ((limb 1 (ga) : Nat) : Int), .int .u64 ((limb 2 (ga) : Nat) : Int), .int .u64 ((limb 3 (ga) : Nat) : Int)]] w fun e w' => (∃ v, e = .returned v ∧ Es w' v 0 (fun _ => 0)) ∧ Below w.heap.size w w' := by
  have hi : ¬ (n : Int) = (nb : Int) := by omega
  have hib : ((n : Int) != (nb : Int)) = true := by simpa using hi
  clear h
  go_enter Tryd.func12, Tryd.ntmps12
  go_upto_region 2 with fail
  have hs1 : (w.alloc (.cells sp 27)).heap.size = w.heap.size + 1 := Array.size_push ..
  have hs2 : ((w.alloc (.cells sp 27)).alloc (.cells #[.int .u64 ((limb 0 (be) : Nat) : Int), .int .u64 ((limb 1 (be) : Nat) : Int), .int .u64 ((limb 2 (be) : Nat) : Int), .int .u64 ((limb 3 (be) : Nat) : Int)] 24)).heap.size = w.heap.size + 1 + 1 := by rw [← hs1]; exact Array.size_push ..
  have hs3 : (((w.alloc (.cells sp 27)).alloc (.cells #[.int .u64 ((limb 0 (be) : Nat) : Int), .int .u64 ((limb 1 (be) : Nat) : Int), .int .u64 ((limb 2 (be) : Nat) : Int), .int .u64 ((limb 3 (be) : Nat) : Int)] 24)).alloc (.cells #[.int .u64 ((limb 0 (ga) : Nat) : Int), .int .u64 ((limb 1 (ga) : Nat) : Int), .int .u64 ((limb 2 (ga) : Nat) : Int), .int .u64 ((limb 3 (ga) : Nat) : Int)] 24)).heap.size = w.heap.size + 1 + 1 + 1 := by rw [← hs2]; exact Array.size_push ..
  obtain ⟨NL, eL⟩ : ∃ z, z = w.heap.size + 1 + 1 + 1 := ⟨_, rfl⟩
  obtain ⟨w1, hw1⟩ : ∃ z : World, z = (((w.alloc (.cells sp 27)).alloc (.cells #[.int .u64 ((limb 0 (be) : Nat) : Int), .int .u64 ((limb 1 (be) : Nat) : Int), .int .u64 ((limb 2 (be) : Nat) : Int), .int .u64 ((limb 3 (be) : Nat) : Int)] 24)).alloc (.cells #[.int .u64 ((limb 0 (ga) : Nat) : Int), .int .u64 ((limb 1 (ga) : Nat) : Int), .int .u64 ((limb 2 (ga) : Nat) : Int), .int .u64 ((limb 3 (ga) : Nat) : Int)] 24)).alloc (.cells #[] 24) := ⟨_, rfl⟩
  have hb1 : Below w.heap.size w w1 := by rw [hw1]; exact bAlloc (bAlloc (bAlloc (bAlloc (Below.refl _ _) _) _) _) _
  have lNL : NL < w1.heap.size := by
    have h4 : w1.heap.size = w.heap.size + 1 + 1 + 1 + 1 := by rw [hw1, ← hs3]; exact Array.size_push ..
    omega
  rw [← hw1]
  try rw [← eL]
  clear hw1 eL hs1 hs2 hs3
  go_wp2
  refine bodyPost_ret (v := .slice (some ⟨NL, 0, none⟩) 0 0) (by simp [results, Tryd.results12, go_sem]) rfl ⟨⟨_, rfl, Or.inr ⟨NL, 0, 0, rfl, Nat.le_refl _, Nat.zero_le _, lNL, fun i hi => by omega⟩⟩, hb1⟩
set_option maxHeartbeats 4000000 in
set_option maxRecDepth 20000 in
theorem rchks_m (si : Int) (sp : Array Value) (oa ob oz : Option Addr) (n nb m ca cb cz be ga : Nat) (h0 : ¬ si < 0) (h3 : ¬ 3 < si) (hn : n ≤ 1000) (hb : nb = n) (h : m ≠ (n + 1) / 2) (w : World) :
    Calls Tryd.prog 12 #[.int .i64 si, .agg sp, .slice oa n ca, .slice ob nb cb, .slice oz m cz, .agg #[.int .u64 ((limb 0 (be) : Nat) : Int), .int .u64 ((limb 1 (be) : Nat) : Int), .int .u64 ((limb 2 (be) : Nat) : Int), .int .u64 ((limb 3 (be) : Nat) : Int)], .agg #[.int .u64 ((limb 0 (ga) : Nat) : Int), .int .u64 ((limb 1 (ga) : Nat) : Int), .int .u64 ((limb 2 (ga) : Nat) : Int), .int .u64 ((limb 3 (ga) : Nat) : Int)]] w fun e w' => (∃ v, e = .returned v ∧ Es w' v 0 (fun _ => 0)) ∧ Below w.heap.size w w' := by
  subst hb
  obtain ⟨q, eq⟩ : ∃ q, q = (nb + 1) / 2 := ⟨_, rfl⟩
  have HC : Hid (∀ w, _) := fun w => rchunks_any nb hn w
  rw [← eq] at HC
  have hi : ¬ (m : Int) = (q : Int) := by omega
  have hib : ((m : Int) != (q : Int)) = true := by simpa using hi
  clear h eq hn
  go_enter Tryd.func12, Tryd.ntmps12
  go_upto_region 2 with fail
  have hs1 : (w.alloc (.cells sp 27)).heap.size = w.heap.size + 1 := Array.size_push ..
  have hs2 : ((w.alloc (.cells sp 27)).alloc (.cells #[.int .u64 ((limb 0 (be) : Nat) : Int), .int .u64 ((limb 1 (be) : Nat) : Int), .int .u64 ((limb 2 (be) : Nat) : Int), .int .u64 ((limb 3 (be) : Nat) : Int)] 24)).heap.size = w.heap.size + 1 + 1 := by rw [← hs1]; exact Array.size_push ..
  have hs3 : (((w.alloc (.cells sp 27)).alloc (.cells #[.int .u64 ((limb 0 (be) : Nat) : Int), .int .u64 ((limb 1 (be) : Nat) : Int), .int .u64 ((limb 2 (be) : Nat) : Int), .int .u64 ((limb 3 (be) : Nat) : Int)] 24)).alloc (.cells #[.int .u64 ((limb 0 (ga) : Nat) : Int), .int .u64 ((limb 1 (ga) : Nat) : Int), .int .u64 ((limb 2 (ga) : Nat) : Int), .int .u64 ((limb 3 (ga) : Nat) : Int)] 24)).heap.size = w.heap.size + 1 + 1 + 1 := by rw [← hs2]; exact Array.size_push ..
  obtain ⟨NL, eL⟩ : ∃ z, z = w.heap.size + 1 + 1 + 1 := ⟨_, rfl⟩
  obtain ⟨w1, hw1⟩ : ∃ z : World, z = (((w.alloc (.cells sp 27)).alloc (.cells #[.int .u64 ((limb 0 (be) : Nat) : Int), .int .u64 ((limb 1 (be) : Nat) : Int), .int .u64 ((limb 2 (be) : Nat) : Int), .int .u64 ((limb 3 (be) : Nat) : Int)] 24)).alloc (.cells #[.int .u64 ((limb 0 (ga) : Nat) : Int), .int .u64 ((limb 1 (ga) : Nat) : Int), .int .u64 ((limb 2 (ga) : Nat) : Int), .int .u64 ((limb 3 (ga) : Nat) : Int)] 24)).alloc (.cells #[] 24) := ⟨_, rfl⟩
  have hb1 : Below w.heap.size w w1 := by rw [hw1]; exact bAlloc (bAlloc (bAlloc (bAlloc (Below.refl _ _) _) _) _) _
  have lNL : NL < w1.heap.size := by
    have h4 : w1.heap.size = w.heap.size + 1 + 1 + 1 + 1 := by rw [hw1, ← hs3]; exact Array.size_push ..
    omega
  rw [← hw1]
  try rw [← eL]
  clear hw1 eL hs1 hs2 hs3
  go_wp2_with fail
  refine (HC.out w1).mono ?_
  rintro e w2 ⟨rfl, e2⟩
  subst e2
  go_wp2
  refine bodyPost_ret (v := .slice (some ⟨NL, 0, none⟩) 0 0) (by simp [results, Tryd.results12, go_sem]) rfl ⟨⟨_, rfl, Or.inr ⟨NL, 0, 0, rfl, Nat.le_refl _, Nat.zero_le _, lNL, fun i hi => by omega⟩⟩, hb1⟩
set_option maxHeartbeats 4000000 in
set_option maxRecDepth 20000 in
theorem rchks_n0 (si : Int) (sp : Array Value) (oa ob oz : Option Addr) (ca cb cz be ga : Nat) (h0 : ¬ si < 0) (h3 : ¬ 3 < si)  (w : World) :
    Calls Tryd.prog 12 #[.int .i64 si, .agg sp, .slice oa 0 ca, .slice ob 0 cb, .slice oz 0 cz, .agg #[.int .u64 ((limb 0 (be) : Nat) : Int), .int .u64 ((limb 1 (be) : Nat) : Int), .int .u64 ((limb 2 (be) : Nat) : Int), .int .u64 ((limb 3 (be) : Nat) : Int)], .agg #[.int .u64 ((limb 0 (ga) : Nat) : Int), .int .u64 ((limb 1 (ga) : Nat) : Int), .int .u64 ((limb 2 (ga) : Nat) : Int), .int .u64 ((limb 3 (ga) : Nat) : Int)]] w fun e w' => (∃ v, e = .returned v ∧ Es w' v 0 (fun _ => 0)) ∧ Below w.heap.size w w' := by
  have HC : Hid (∀ w, Calls Tryd.prog 30 #[.int .i64 0] w fun e w' => e = .returned (.int .i64 0) ∧ w' = w) := fun w => rchunks_any 0 (by decide) w
  go_enter Tryd.func12, Tryd.ntmps12
  go_upto_region 2 with fail
  have hs1 : (w.alloc (.cells sp 27)).heap.size = w.heap.size + 1 := Array.size_push ..
  have hs2 : ((w.alloc (.cells sp 27)).alloc (.cells #[.int .u64 ((limb 0 (be) : Nat) : Int), .int .u64 ((limb 1 (be) : Nat) : Int), .int .u64 ((limb 2 (be) : Nat) : Int), .int .u64 ((limb 3 (be) : Nat) : Int)] 24)).heap.size = w.heap.size + 1 + 1 := by rw [← hs1]; exact Array.size_push ..
  have hs3 : (((w.alloc (.cells sp 27)).alloc (.cells #[.int .u64 ((limb 0 (be) : Nat) : Int), .int .u64 ((limb 1 (be) : Nat) : Int), .int .u64 ((limb 2 (be) : Nat) : Int), .int .u64 ((limb 3 (be) : Nat) : Int)] 24)).alloc (.cells #[.int .u64 ((limb 0 (ga) : Nat) : Int), .int .u64 ((limb 1 (ga) : Nat) : Int), .int .u64 ((limb 2 (ga) : Nat) : Int), .int .u64 ((limb 3 (ga) : Nat) : Int)] 24)).heap.size = w.heap.size + 1 + 1 + 1 := by rw [← hs2]; exact Array.size_push ..
  obtain ⟨NL, eL⟩ : ∃ z, z = w.heap.size + 1 + 1 + 1 := ⟨_, rfl⟩
  obtain ⟨w1, hw1⟩ : ∃ z : World, z = (((w.alloc (.cells sp 27)).alloc (.cells #[.int .u64 ((limb 0 (be) : Nat) : Int), .int .u64 ((limb 1 (be) : Nat) : Int), .int .u64 ((limb 2 (be) : Nat) : Int), .int .u64 ((limb 3 (be) : Nat) : Int)] 24)).alloc (.cells #[.int .u64 ((limb 0 (ga) : Nat) : Int), .int .u64 ((limb 1 (ga) : Nat) : Int), .int .u64 ((limb 2 (ga) : Nat) : Int), .int .u64 ((limb 3 (ga) : Nat) : Int)] 24)).alloc (.cells #[] 24) := ⟨_, rfl⟩
  have hb1 : Below w.heap.size w w1 := by rw [hw1]; exact bAlloc (bAlloc (bAlloc (bAlloc (Below.refl _ _) _) _) _) _
  have lNL : NL < w1.heap.size := by
    have h4 : w1.heap.size = w.heap.size + 1 + 1 + 1 + 1 := by rw [hw1, ← hs3]; exact Array.size_push ..
    omega
  rw [← hw1]
  try rw [← eL]
  clear hw1 eL hs1 hs2 hs3
  go_wp2_with fail
  refine (HC.out w1).mono ?_
  rintro e w2 ⟨rfl, e2⟩
  subst e2
  go_wp2
  refine bodyPost_ret (v := .slice (some ⟨NL, 0, none⟩) 0 0) (by simp [results, Tryd.results12, go_sem]) rfl ⟨⟨_, rfl, Or.inr ⟨NL, 0, 0, rfl, Nat.le_refl _, Nat.zero_le _, lNL, fun i hi => by omega⟩⟩, hb1⟩
end Go.Proofs.YtmbfkflgpdkphaaDoor
