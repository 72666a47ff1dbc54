/- circuit.Usable; lookup.Product where product.Check says no. -/
import Derived.Test.YteheloagjkengaaDoorLP6
namespace Go.Proofs.YteheloagjkengaaDoor
open Go.RowKit

set_option maxHeartbeats 4000000 in
theorem usable_any (k : Int) (w : World) : Calls Tryd.prog 16 #[.int .i64 k] w fun e w' => e = .returned (.int .i64 (if 2 ≤ k ∧ k ≤ 30 then 2 ^ k.toNat - 4 else 0)) ∧ w' = w := by
  by_cases h2 : k < 2
  · rw [if_neg (by omega)]
    go_enter Tryd.func16, Tryd.ntmps16
    go_wp2
    go_ret
    exact ⟨rfl, rfl⟩
  · by_cases h30 : 30 < k
    · rw [if_neg (by omega)]
      go_enter Tryd.func16, Tryd.ntmps16
      go_wp2
      go_ret
      exact ⟨rfl, rfl⟩
    · rw [if_pos (by omega)]
      obtain ⟨q, rfl⟩ : ∃ q : Nat, k = q := ⟨k.toNat, by omega⟩
      have hq : 2 ≤ q ∧ q ≤ 30 := by omega
      have hk0 : ¬ (q : Int) < 0 := by omega
      have e1 : (2 : Int) ^ q = ((2 ^ q : Nat) : Int) := by simp
      have hP : 4 ≤ 2 ^ q ∧ 2 ^ q ≤ 1073741824 := ⟨Nat.pow_le_pow_right (n := 2) (by decide) hq.1, Nat.pow_le_pow_right (n := 2) (by decide) hq.2⟩
      obtain ⟨P, eP⟩ : ∃ P, P = 2 ^ q := ⟨_, rfl⟩
      rw [← eP] at e1 hP
      have hkw : IntKind.i64.wrap ((2 : Int) ^ q) = (P : Int) := by rw [e1]; simp [IntKind.wrap, IntKind.bits, IntKind.signed]; omega
      have HE : Hid ((2 : Int) ^ q = (P : Int)) := e1
      clear eP e1
      go_enter Tryd.func16, Tryd.ntmps16
      go_wp2
      go_ret
      exact ⟨by rw [HE.out]; rfl, rfl⟩
set_option maxHeartbeats 4000000 in
set_option maxRecDepth 20000 in
theorem prod_no (si k E : Int) (hE : E ≠ 0) (u1 u2 u3 u4 : Value) (be ga b : Nat) (w : World) (hg : Glob w) (hc : ∀ w, Glob w → Calls Tryd.prog 15 #[.int .i64 si, .int .i64 k] w fun e w' => e = .returned (.int .i64 E) ∧ Below w.heap.size w w') :
    Calls Tryd.prog 7 #[.int .i64 si, .int .i64 k, u1, u2, u3, u4, .agg #[.int .u64 ((limb 0 (be) : Nat) : Int), .int .u64 ((limb 1 (be) : Nat) : Int), .int .u64 ((limb 2 (be) : Nat) : Int), .int .u64 ((limb 3 (be) : Nat) : Int)], .agg #[.int .u64 ((limb 0 (ga) : Nat) : Int), .int .u64 ((limb 1 (ga) : Nat) : Int), .int .u64 ((limb 2 (ga) : Nat) : Int), .int .u64 ((limb 3 (ga) : Nat) : Int)], .pointer (some ⟨b, 0, none⟩)] w fun e w' => e = .returned (.tuple #[.slice none 0 0, .int .i64 E]) ∧ Below w.heap.size w w' := by
  have HC : Hid (∀ w, Glob w → _) := hc
  have HG : Hid (Glob w) := hg
  clear hc hg
  go_enter Tryd.func7, Tryd.ntmps7
  go_wp2_with fail
  obtain ⟨w1, hw1⟩ : ∃ z : World, z = (w.alloc (.cells #[.int .u64 ((limb 0 (be) : Nat) : Int), .int .u64 ((limb 1 (be) : Nat) : Int), .int .u64 ((limb 2 (be) : Nat) : Int), .int .u64 ((limb 3 (be) : Nat) : Int)] 25)).alloc (.cells #[.int .u64 ((limb 0 (ga) : Nat) : Int), .int .u64 ((limb 1 (ga) : Nat) : Int), .int .u64 ((limb 2 (ga) : Nat) : Int), .int .u64 ((limb 3 (ga) : Nat) : Int)] 25) := ⟨_, rfl⟩
  have hb1 : Below w.heap.size w w1 := by rw [hw1]; exact bAlloc (bAlloc (Below.refl _ _) _) _
  rw [← hw1]
  clear hw1
  refine (HC.out w1 (HG.out.below hb1)).mono ?_
  rintro e w2 ⟨rfl, hbx⟩
  have hb2 := bStep hb1 hbx
  clear hb1 hbx HC HG
  go_wp2
  refine bodyPost_ret (v := .tuple #[.slice none 0 0, .int .i64 E]) (by simp [results, Tryd.results7, go_sem]) rfl ⟨rfl, hb2⟩
theorem prod_err (si k : Int) (u1 u2 u3 u4 : Value) (be ga b : Nat) (h : si < 0 ∨ 4 ≤ si ∨ k < 3 ∨ 5 < k) (w : World) (hg : Glob w) :
    Calls Tryd.prog 7 #[.int .i64 si, .int .i64 k, u1, u2, u3, u4, .agg #[.int .u64 ((limb 0 (be) : Nat) : Int), .int .u64 ((limb 1 (be) : Nat) : Int), .int .u64 ((limb 2 (be) : Nat) : Int), .int .u64 ((limb 3 (be) : Nat) : Int)], .agg #[.int .u64 ((limb 0 (ga) : Nat) : Int), .int .u64 ((limb 1 (ga) : Nat) : Int), .int .u64 ((limb 2 (ga) : Nat) : Int), .int .u64 ((limb 3 (ga) : Nat) : Int)], .pointer (some ⟨b, 0, none⟩)] w fun e w' => e = .returned (.tuple #[.slice none 0 0, .int .i64 (if si < 0 ∨ 4 ≤ si then 20 else 60)]) ∧ Below w.heap.size w w' := by
  by_cases hs : si < 0 ∨ 4 ≤ si
  · rw [if_pos hs]
    exact prod_no si k 20 (by decide) u1 u2 u3 u4 be ga b w hg (fun w _ => pck_out si k hs w)
  · rw [if_neg hs]
    obtain ⟨s, rfl⟩ := Int.eq_ofNat_of_zero_le (show 0 ≤ si by omega)
    refine prod_no (s : Int) k 60 (by decide) u1 u2 u3 u4 be ga b w hg (fun w hg => ?_)
    have := pck_in s k (by omega) w hg
    rwa [if_pos (by omega)] at this
end Go.Proofs.YteheloagjkengaaDoor

/- lookup.Product, a list of another length. -/
namespace Go.Proofs.YteheloagjkengaaDoor
open Go.RowKit

set_option maxHeartbeats 4000000 in
set_option maxRecDepth 20000 in
theorem prod_len (si k : Int) (U : Nat) (oF : Nat → Option Addr) (nF cF : Nat → Nat) (be ga b : Nat) (hne : ∃ i, i < 4 ∧ nF i ≠ U) (w : World) (hg : Glob w)
    (hc : ∀ w, Glob w → Calls Tryd.prog 15 #[.int .i64 si, .int .i64 k] w fun e w' => e = .returned (.int .i64 0) ∧ Below w.heap.size w w')
    (hu : ∀ w, Calls Tryd.prog 16 #[.int .i64 k] w fun e w' => e = .returned (.int .i64 (U : Int)) ∧ w' = w) :
    Calls Tryd.prog 7 #[.int .i64 si, .int .i64 k, .slice (oF 0) (nF 0) (cF 0), .slice (oF 1) (nF 1) (cF 1), .slice (oF 2) (nF 2) (cF 2), .slice (oF 3) (nF 3) (cF 3), .agg #[.int .u64 ((limb 0 (be) : Nat) : Int), .int .u64 ((limb 1 (be) : Nat) : Int), .int .u64 ((limb 2 (be) : Nat) : Int), .int .u64 ((limb 3 (be) : Nat) : Int)], .agg #[.int .u64 ((limb 0 (ga) : Nat) : Int), .int .u64 ((limb 1 (ga) : Nat) : Int), .int .u64 ((limb 2 (ga) : Nat) : Int), .int .u64 ((limb 3 (ga) : Nat) : Int)], .pointer (some ⟨b, 0, none⟩)] w fun e w' => e = .returned (.tuple #[.slice none 0 0, .int .i64 50]) ∧ Below w.heap.size w w' := by
  have HNE : Hid (∃ i, i < 4 ∧ nF i ≠ U) := hne
  clear hne
  have HC : Hid (∀ w, Glob w → _) := hc
  have HU : Hid (∀ w, Calls Tryd.prog 16 #[.int .i64 k] w fun e w' => e = .returned (.int .i64 (U : Int)) ∧ w' = w) := hu
  have HG : Hid (Glob w) := hg
  clear hc hg hu
  go_enter Tryd.func7, Tryd.ntmps7
  go_wp2_with fail
  have hs1 : (w.alloc (.cells #[.int .u64 ((limb 0 (be) : Nat) : Int), .int .u64 ((limb 1 (be) : Nat) : Int), .int .u64 ((limb 2 (be) : Nat) : Int), .int .u64 ((limb 3 (be) : Nat) : Int)] 25)).heap.size = w.heap.size + 1 := Array.size_push ..
  obtain ⟨N15, e0⟩ : ∃ z, z = w.heap.size := ⟨_, rfl⟩
  obtain ⟨N16, e1⟩ : ∃ z, z = N15 + 1 := ⟨_, rfl⟩
  obtain ⟨w1, hw1⟩ : ∃ z : World, z = (w.alloc (.cells #[.int .u64 ((limb 0 (be) : Nat) : Int), .int .u64 ((limb 1 (be) : Nat) : Int), .int .u64 ((limb 2 (be) : Nat) : Int), .int .u64 ((limb 3 (be) : Nat) : Int)] 25)).alloc (.cells #[.int .u64 ((limb 0 (ga) : Nat) : Int), .int .u64 ((limb 1 (ga) : Nat) : Int), .int .u64 ((limb 2 (ga) : Nat) : Int), .int .u64 ((limb 3 (ga) : Nat) : Int)] 25) := ⟨_, rfl⟩
  have b15 : Blk w1 25 N15 (fun i => limb i be) := by rw [hw1]; exact (Blk.newAt _ _ _ (fun i => limb i be) e0).alloc _
  have b16 : Blk w1 25 N16 (fun i => limb i ga) := by rw [hw1]; exact Blk.newAt _ _ _ (fun i => limb i ga) (by rw [e1, e0, hs1])
  have hb1 : Below w.heap.size w w1 := by rw [hw1]; exact bAlloc (bAlloc (Below.refl _ _) _) _
  rw [← hw1]
  try rw [← e0]
  try rw [← e1]
  have l15 : w.heap.size ≤ N15 := by omega
  have l16 : w.heap.size ≤ N16 := by omega
  have n15_16 : N15 ≠ N16 := by omega
  clear hw1 e0 e1 hs1
  have HG1 : Hid (Glob w1) := HG.out.below hb1
  refine (HC.out w1 HG1.out).mono ?_
  rintro e w2 ⟨rfl, hbx⟩
  have hb2 := bStep hb1 hbx
  have c15 := b15.belowAll hbx; have c16 := b16.belowAll hbx
  clear hb1 hbx HC HG1 b15 b16
  go_upto_region 4 with fail
  have HQ : Hid (∀ j, j < 4 → (#[.slice (oF 0) (nF 0) (cF 0), .slice (oF 1) (nF 1) (cF 1), .slice (oF 2) (nF 2) (cF 2), .slice (oF 3) (nF 3) (cF 3)] : Array Value)[j]? = some (.slice (oF j) (nF j) (cF j))) := fun j hj => by
    have h4 : j = 0 ∨ j = 1 ∨ j = 2 ∨ j = 3 := by omega
    rcases h4 with rfl | rfl | rfl | rfl <;> rfl
  obtain ⟨w3, hw3⟩ : ∃ z : World, z = w2.alloc (.cells #[.slice (oF 0) (nF 0) (cF 0), .slice (oF 1) (nF 1) (cF 1), .slice (oF 2) (nF 2) (cF 2), .slice (oF 3) (nF 3) (cF 3)] 22) := ⟨_, rfl⟩
  obtain ⟨NL, eNL⟩ : ∃ z, z = w2.heap.size := ⟨_, rfl⟩
  have bl : Lay w3 22 NL #[.slice (oF 0) (nF 0) (cF 0), .slice (oF 1) (nF 1) (cF 1), .slice (oF 2) (nF 2) (cF 2), .slice (oF 3) (nF 3) (cF 3)] := by rw [hw3]; exact Lay.newAt _ _ _ eNL
  have hb3 : Below w.heap.size w w3 := by rw [hw3]; exact bAlloc hb2 _
  obtain ⟨ls, els'⟩ : ∃ z : Array Value, z = #[.slice (oF 0) (nF 0) (cF 0), .slice (oF 1) (nF 1) (cF 1), .slice (oF 2) (nF 2) (cF 2), .slice (oF 3) (nF 3) (cF 3)] := ⟨_, rfl⟩
  rw [← els'] at bl HQ
  go_wp2
  rw [← hw3]
  try rw [← eNL]
  clear hw3 eNL els' hb2 c15 c16
  go_loopw [38] (fun jv wr => ∃ j : Nat, jv = .int .i64 (j : Int) ∧ j ≤ 4 ∧ Hid (∀ i, i < j → nF i = U) ∧ Below w.heap.size w wr ∧ Lay wr 22 NL ls) (fun jv _ => 4 - (intOf jv).toNat)
  case atStart => exact ⟨0, rfl, Nat.zero_le _, fun i hi => absurd hi (Nat.not_lt_zero i), hb3, bl⟩
  case round =>
    obtain ⟨j, rfl, hj, hE, hb, blr⟩ := hrel
    clear hb3 bl
    by_cases hlt : j < 4
    · have hji : (j : Int) < 4 := by omega
      have q := blr.at (HQ.out j hlt)
      obtain ⟨m, em⟩ : ∃ z, z = nF j := ⟨_, rfl⟩
      rw [← em] at q
      by_cases hmU : m = U
      · have HE2 : Hid (∀ i, i < j + 1 → nF i = U) := fun i hi => by
          by_cases h : i = j
          · rw [h, ← em]; exact hmU
          · exact hE.out i (by omega)
        subst hmU
        clear hE em
        go_wp2_with fail
        refine (HU.out wr).mono ?_
        rintro e w5 ⟨rfl, rfl⟩
        go_wp2
        go_roundw
        case measure => simp [intOf]; omega
        case rel => exact ⟨j + 1, by go_num, by omega, HE2, hb, blr⟩
      · have hmi : ¬ (m : Int) = (U : Int) := by omega
        clear hE em
        go_wp2_with fail
        refine (HU.out wr).mono ?_
        rintro e w5 ⟨rfl, rfl⟩
        go_wp2
        refine bodyPost_ret (v := .tuple #[.slice none 0 0, .int .i64 50]) (by simp [results, Tryd.results7, go_sem]) rfl ⟨rfl, hb⟩
    · exfalso
      obtain ⟨i, hi, hne⟩ := HNE.out
      exact hne (hE.out i (by omega))
end Go.Proofs.YteheloagjkengaaDoor

