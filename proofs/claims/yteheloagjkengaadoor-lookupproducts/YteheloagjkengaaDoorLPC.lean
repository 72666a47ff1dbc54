/- The reference's Product where all lengths fit. -/
import Derived.Test.YteheloagjkengaaDoorLPB
namespace Go.Proofs.YteheloagjkengaaDoor
open Go.RowKit

theorem eqlE2 (X Y : Nat) (hX : X < 115792089237316195423570985008687907853269984665640564039457584007913129639936) (hY : Y < 115792089237316195423570985008687907853269984665640564039457584007913129639936) (w : World) : (binOp .eql 25 (.agg #[.int .u64 ((limb 0 (X) : Nat) : Int), .int .u64 ((limb 1 (X) : Nat) : Int), .int .u64 ((limb 2 (X) : Nat) : Int), .int .u64 ((limb 3 (X) : Nat) : Int)]) (.agg #[.int .u64 ((limb 0 (Y) : Nat) : Int), .int .u64 ((limb 1 (Y) : Nat) : Int), .int .u64 ((limb 2 (Y) : Nat) : Int), .int .u64 ((limb 3 (Y) : Nat) : Int)])).run Tryd.prog w = .ok (.bool (decide (X = Y))) w := by
  rw [run_eql_struct, eqlIn X Y hX hY]; rfl
/-- How long a list is. -/
def lenV : Value → Nat
  | .slice _ n _ => n
  | _ => 0
/-- The first k + 1 of a row of numbers. -/
def zL (Z : Nat → Nat) (k : Nat) : List Nat := (List.range (k + 1)).map Z
theorem zL_succ (Z : Nat → Nat) (k : Nat) : zL Z (k + 1) = zL Z k ++ [Z (k + 1)] := by unfold zL; rw [List.range_succ, List.map_append]; rfl
theorem zL_len (Z : Nat → Nat) (k : Nat) : (zL Z k).length = k + 1 := by unfold zL; simp
theorem zL_at (Z : Nat → Nat) (k : Nat) : (zL Z k).getD k 0 = Z k := by unfold zL; simp [List.getD_eq_getElem?_getD]
theorem OwnL.lenV {w : World} {base : Nat} {v : Value} {l : List Nat} (h : OwnL w base v l) (h0 : l.length ≠ 0) : lenV v = l.length := by
  rcases h.es with ⟨_, h1⟩ | ⟨b, o, c, rfl, _⟩
  · exact absurd h1 h0
  · rfl
theorem OwnL.cong {w : World} {base : Nat} {v : Value} {l l' : List Nat} (h : OwnL w base v l) (e : l = l') : OwnL w base v l' := e ▸ h
/-- What the reference's Product answers. -/
def RpE (w w' : World) (U m cm : Nat) (oc : Option Addr) (B Z : Nat → Nat) (el f : Nat → Nat) (e : Ending) : Prop :=
  ((∃ i, i < U ∧ B i = 0) ∧ e = .returned (.tuple #[.agg #[.slice oc m cm, .int .i64 0], .slice none 0 0, .int .i64 100])) ∨ ((∀ i, i < U → B i ≠ 0) ∧ ((m < 3 ∧ ∃ j : Int, e = .returned (.tuple #[.agg #[.slice oc m cm, .int .i64 j], .slice none 0 0, .int .i64 81])) ∨ (3 ≤ m ∧ ∃ z, e = .returned (.tuple #[.agg #[.slice oc m cm, .int .i64 3], z, .int .i64 0]) ∧ OwnL w' w.heap.size z (zL Z U ++ coinL el f 3))))
set_option maxHeartbeats 8000000 in
set_option maxRecDepth 20000 in
theorem rprod_ok (si : Int) (q U : Nat) (hq : 3 ≤ q ∧ q ≤ 5) (hU : U = 2 ^ q - 4) (a0 o0 c0 a1 o1 c1 a2 o2 c2 a3 o3 c3 : Nat) (F0 F1 F2 F3 A B V Z el f : Nat → Nat) (be ga m cm : Nat) (oc : Option Addr) (h0 : ¬ si < 0) (h1 : ¬ 3 < si) (w : World)
    (l0 : a0 < w.heap.size) (y0 : ∀ i, i < U → ∀ j, j < 4 → w.cell? ⟨a0, o0 + i * 4 + j, none⟩ = some (.int .u64 ((limb j (F0 i) : Nat) : Int))) (l1 : a1 < w.heap.size) (y1 : ∀ i, i < U → ∀ j, j < 4 → w.cell? ⟨a1, o1 + i * 4 + j, none⟩ = some (.int .u64 ((limb j (F1 i) : Nat) : Int))) (l2 : a2 < w.heap.size) (y2 : ∀ i, i < U → ∀ j, j < 4 → w.cell? ⟨a2, o2 + i * 4 + j, none⟩ = some (.int .u64 ((limb j (F2 i) : Nat) : Int))) (l3 : a3 < w.heap.size) (y3 : ∀ i, i < U → ∀ j, j < 4 → w.cell? ⟨a3, o3 + i * 4 + j, none⟩ = some (.int .u64 ((limb j (F3 i) : Nat) : Int)))
    (hcz : Es w (.slice oc m cm) m f) (hm : m < 9223372036854775807) (hZ0 : Z 0 = 1) (hBM : ∀ i, i < U → B i < 115792089237316195423570985008687907853269984665640564039457584007913129639936)
    (ht2 : ∀ i, i < U → ∀ w, Calls Tryd.prog 19 #[.int .i64 si, .agg #[.int .u64 ((limb 0 (F2 i) : Nat) : Int), .int .u64 ((limb 1 (F2 i) : Nat) : Int), .int .u64 ((limb 2 (F2 i) : Nat) : Int), .int .u64 ((limb 3 (F2 i) : Nat) : Int)], .agg #[.int .u64 ((limb 0 (be) : Nat) : Int), .int .u64 ((limb 1 (be) : Nat) : Int), .int .u64 ((limb 2 (be) : Nat) : Int), .int .u64 ((limb 3 (be) : Nat) : Int)], .agg #[.int .u64 ((limb 0 (F3 i) : Nat) : Int), .int .u64 ((limb 1 (F3 i) : Nat) : Int), .int .u64 ((limb 2 (F3 i) : Nat) : Int), .int .u64 ((limb 3 (F3 i) : Nat) : Int)], .agg #[.int .u64 ((limb 0 (ga) : Nat) : Int), .int .u64 ((limb 1 (ga) : Nat) : Int), .int .u64 ((limb 2 (ga) : Nat) : Int), .int .u64 ((limb 3 (ga) : Nat) : Int)]] w fun e w' => e = .returned (.agg #[.int .u64 ((limb 0 (B i) : Nat) : Int), .int .u64 ((limb 1 (B i) : Nat) : Int), .int .u64 ((limb 2 (B i) : Nat) : Int), .int .u64 ((limb 3 (B i) : Nat) : Int)]) ∧ Below w.heap.size w w')
    (ht1 : ∀ i, i < U → ∀ w, Calls Tryd.prog 19 #[.int .i64 si, .agg #[.int .u64 ((limb 0 (F0 i) : Nat) : Int), .int .u64 ((limb 1 (F0 i) : Nat) : Int), .int .u64 ((limb 2 (F0 i) : Nat) : Int), .int .u64 ((limb 3 (F0 i) : Nat) : Int)], .agg #[.int .u64 ((limb 0 (be) : Nat) : Int), .int .u64 ((limb 1 (be) : Nat) : Int), .int .u64 ((limb 2 (be) : Nat) : Int), .int .u64 ((limb 3 (be) : Nat) : Int)], .agg #[.int .u64 ((limb 0 (F1 i) : Nat) : Int), .int .u64 ((limb 1 (F1 i) : Nat) : Int), .int .u64 ((limb 2 (F1 i) : Nat) : Int), .int .u64 ((limb 3 (F1 i) : Nat) : Int)], .agg #[.int .u64 ((limb 0 (ga) : Nat) : Int), .int .u64 ((limb 1 (ga) : Nat) : Int), .int .u64 ((limb 2 (ga) : Nat) : Int), .int .u64 ((limb 3 (ga) : Nat) : Int)]] w fun e w' => e = .returned (.agg #[.int .u64 ((limb 0 (A i) : Nat) : Int), .int .u64 ((limb 1 (A i) : Nat) : Int), .int .u64 ((limb 2 (A i) : Nat) : Int), .int .u64 ((limb 3 (A i) : Nat) : Int)]) ∧ Below w.heap.size w w')
    (hby : ∀ i, i < U → B i ≠ 0 → ∀ w, Calls Tryd.prog 21 #[.int .i64 si, .agg #[.int .u64 ((limb 0 (A i) : Nat) : Int), .int .u64 ((limb 1 (A i) : Nat) : Int), .int .u64 ((limb 2 (A i) : Nat) : Int), .int .u64 ((limb 3 (A i) : Nat) : Int)], .agg #[.int .u64 ((limb 0 (B i) : Nat) : Int), .int .u64 ((limb 1 (B i) : Nat) : Int), .int .u64 ((limb 2 (B i) : Nat) : Int), .int .u64 ((limb 3 (B i) : Nat) : Int)]] w fun e w' => e = .returned (.agg #[.int .u64 ((limb 0 (V i) : Nat) : Int), .int .u64 ((limb 1 (V i) : Nat) : Int), .int .u64 ((limb 2 (V i) : Nat) : Int), .int .u64 ((limb 3 (V i) : Nat) : Int)]) ∧ Below w.heap.size w w')
    (hmu : ∀ i, i < U → ∀ w, Calls Tryd.prog 20 #[.int .i64 si, .agg #[.int .u64 ((limb 0 (Z i) : Nat) : Int), .int .u64 ((limb 1 (Z i) : Nat) : Int), .int .u64 ((limb 2 (Z i) : Nat) : Int), .int .u64 ((limb 3 (Z i) : Nat) : Int)], .agg #[.int .u64 ((limb 0 (V i) : Nat) : Int), .int .u64 ((limb 1 (V i) : Nat) : Int), .int .u64 ((limb 2 (V i) : Nat) : Int), .int .u64 ((limb 3 (V i) : Nat) : Int)]] w fun e w' => e = .returned (.agg #[.int .u64 ((limb 0 (Z (i + 1)) : Nat) : Int), .int .u64 ((limb 1 (Z (i + 1)) : Nat) : Int), .int .u64 ((limb 2 (Z (i + 1)) : Nat) : Int), .int .u64 ((limb 3 (Z (i + 1)) : Nat) : Int)]) ∧ Below w.heap.size w w')
    (hof : ∀ i, i < m → ∀ w, Calls Tryd.prog 22 #[.int .i64 si, .agg #[.int .u64 ((limb 0 (f i) : Nat) : Int), .int .u64 ((limb 1 (f i) : Nat) : Int), .int .u64 ((limb 2 (f i) : Nat) : Int), .int .u64 ((limb 3 (f i) : Nat) : Int)]] w fun e w' => e = .returned (.agg #[.int .u64 ((limb 0 (el (f i)) : Nat) : Int), .int .u64 ((limb 1 (el (f i)) : Nat) : Int), .int .u64 ((limb 2 (el (f i)) : Nat) : Int), .int .u64 ((limb 3 (el (f i)) : Nat) : Int)]) ∧ Below w.heap.size w w') :
    Calls Tryd.prog 8 #[.int .i64 si, .int .i64 (q : Int), .slice (some ⟨a0, o0, none⟩) U c0, .slice (some ⟨a1, o1, none⟩) U c1, .slice (some ⟨a2, o2, none⟩) U c2, .slice (some ⟨a3, o3, none⟩) U c3, .agg #[.int .u64 ((limb 0 (be) : Nat) : Int), .int .u64 ((limb 1 (be) : Nat) : Int), .int .u64 ((limb 2 (be) : Nat) : Int), .int .u64 ((limb 3 (be) : Nat) : Int)], .agg #[.int .u64 ((limb 0 (ga) : Nat) : Int), .int .u64 ((limb 1 (ga) : Nat) : Int), .int .u64 ((limb 2 (ga) : Nat) : Int), .int .u64 ((limb 3 (ga) : Nat) : Int)], .agg #[.slice oc m cm, .int .i64 0]] w fun e w' => RpE w w' U m cm oc B Z el f e ∧ Below w.heap.size w w' := by
  have HT2 : Hid (∀ i, i < U → ∀ w, _) := ht2
  have HT1 : Hid (∀ i, i < U → ∀ w, _) := ht1
  have HBY : Hid (∀ i, i < U → B i ≠ 0 → ∀ w, _) := hby
  have HMU : Hid (∀ i, i < U → ∀ w, _) := hmu
  have HOF : Hid (∀ i, i < m → ∀ w, _) := hof
  have HBM : Hid (∀ i, i < U → B i < 115792089237316195423570985008687907853269984665640564039457584007913129639936) := hBM
  have HCZ : Hid (Es w (.slice oc m cm) m f) := hcz
  have HN : Hid (m < 9223372036854775807) := hm
  have HZ0 : Hid (Z 0 = 1) := hZ0
  obtain ⟨i0, hi, hz0, hz1, hz2⟩ := elemInfo
  have HI := (show Hid _ from hi); have HZ := (show Hid _ from And.intro hz0 (And.intro hz1 hz2)); clear hi hz0 hz1 hz2
  have H0 : Hid (a0 < w.heap.size ∧ ∀ i, i < U → ∀ j, j < 4 → w.cell? ⟨a0, o0 + i * 4 + j, none⟩ = some (.int .u64 ((limb j (F0 i) : Nat) : Int))) := ⟨l0, y0⟩
  have H1 : Hid (a1 < w.heap.size ∧ ∀ i, i < U → ∀ j, j < 4 → w.cell? ⟨a1, o1 + i * 4 + j, none⟩ = some (.int .u64 ((limb j (F1 i) : Nat) : Int))) := ⟨l1, y1⟩
  have H2 : Hid (a2 < w.heap.size ∧ ∀ i, i < U → ∀ j, j < 4 → w.cell? ⟨a2, o2 + i * 4 + j, none⟩ = some (.int .u64 ((limb j (F2 i) : Nat) : Int))) := ⟨l2, y2⟩
  have H3 : Hid (a3 < w.heap.size ∧ ∀ i, i < U → ∀ j, j < 4 → w.cell? ⟨a3, o3 + i * 4 + j, none⟩ = some (.int .u64 ((limb j (F3 i) : Nat) : Int))) := ⟨l3, y3⟩
  clear ht2 ht1 hby hmu hof hBM hcz hm hZ0 l0 y0 l1 y1 l2 y2 l3 y3
  have hk0 : ¬ (q : Int) < 0 := by omega
  have h2 : ¬ (q : Int) < 3 := by omega
  have h3 : ¬ (5 : Int) < (q : Int) := by omega
  have hP : 8 ≤ 2 ^ q ∧ 2 ^ q ≤ 32 := ⟨Nat.pow_le_pow_right (n := 2) (by decide) hq.1, Nat.pow_le_pow_right (n := 2) (by decide) hq.2⟩
  obtain ⟨P, eP⟩ : ∃ P, P = 2 ^ q := ⟨_, rfl⟩
  have e1 : (2 : Int) ^ q = (P : Int) := by rw [eP]; simp
  rw [← eP] at hP hU
  have hkw : IntKind.u64.wrap (q : Int) = (q : Int) := by simp [IntKind.wrap, IntKind.bits, IntKind.signed]; omega
  have hPw : IntKind.i64.wrap ((2 : Int) ^ q) = (P : Int) := by rw [e1]; simp [IntKind.wrap, IntKind.bits, IntKind.signed]; omega
  have hUw : IntKind.i64.wrap ((P : Int) - 4) = (U : Int) := by rw [show (P : Int) - 4 = (U : Int) by omega]; simp [IntKind.wrap, IntKind.bits, IntKind.signed]; omega
  clear eP e1
  have HUP : Hid (U + 4 = P ∧ U ≤ 28) := by show _ ∧ _; omega
  have hUi : (U : Int) + 4 = (P : Int) := by omega
  clear hU hP hq
  have HW3 : Hid (IntKind.u64.wrap (q : Int) = (q : Int)) := hkw
  go_enter Tryd.func8, Tryd.ntmps8
  go_upto_region 1 with fail
  have hs1 : (w.alloc (.cells #[.int .u64 ((limb 0 (be) : Nat) : Int), .int .u64 ((limb 1 (be) : Nat) : Int), .int .u64 ((limb 2 (be) : Nat) : Int), .int .u64 ((limb 3 (be) : Nat) : Int)] 25)).heap.size = w.heap.size + 1 := Array.size_push ..
  have hs2 : ((w.alloc (.cells #[.int .u64 ((limb 0 (be) : Nat) : Int), .int .u64 ((limb 1 (be) : Nat) : Int), .int .u64 ((limb 2 (be) : Nat) : Int), .int .u64 ((limb 3 (be) : Nat) : Int)] 25)).alloc (.cells #[.int .u64 ((limb 0 (ga) : Nat) : Int), .int .u64 ((limb 1 (ga) : Nat) : Int), .int .u64 ((limb 2 (ga) : Nat) : Int), .int .u64 ((limb 3 (ga) : Nat) : Int)] 25)).heap.size = w.heap.size + 1 + 1 := by rw [← hs1]; exact Array.size_push ..
  have hs3 : (((w.alloc (.cells #[.int .u64 ((limb 0 (be) : Nat) : Int), .int .u64 ((limb 1 (be) : Nat) : Int), .int .u64 ((limb 2 (be) : Nat) : Int), .int .u64 ((limb 3 (be) : Nat) : Int)] 25)).alloc (.cells #[.int .u64 ((limb 0 (ga) : Nat) : Int), .int .u64 ((limb 1 (ga) : Nat) : Int), .int .u64 ((limb 2 (ga) : Nat) : Int), .int .u64 ((limb 3 (ga) : Nat) : Int)] 25)).alloc (.cells #[.slice oc m cm, .int .i64 0] 36)).heap.size = w.heap.size + 1 + 1 + 1 := by rw [← hs2]; exact Array.size_push ..
  obtain ⟨N15, e0⟩ : ∃ z, z = w.heap.size := ⟨_, rfl⟩
  obtain ⟨N16, e1⟩ : ∃ z, z = N15 + 1 := ⟨_, rfl⟩
  obtain ⟨N17, e2⟩ : ∃ z, z = N16 + 1 := ⟨_, rfl⟩
  obtain ⟨N18, e3⟩ : ∃ z, z = N17 + 1 := ⟨_, rfl⟩
  obtain ⟨w1, hw1⟩ : ∃ z : World, z = (((w.alloc (.cells #[.int .u64 ((limb 0 (be) : Nat) : Int), .int .u64 ((limb 1 (be) : Nat) : Int), .int .u64 ((limb 2 (be) : Nat) : Int), .int .u64 ((limb 3 (be) : Nat) : Int)] 25)).alloc (.cells #[.int .u64 ((limb 0 (ga) : Nat) : Int), .int .u64 ((limb 1 (ga) : Nat) : Int), .int .u64 ((limb 2 (ga) : Nat) : Int), .int .u64 ((limb 3 (ga) : Nat) : Int)] 25)).alloc (.cells #[.slice oc m cm, .int .i64 0] 36)).alloc (.cells #[.slice none 0 0, .int .i64 0] 36) := ⟨_, rfl⟩
  have b15 : Blk w1 25 N15 (fun i => limb i be) := by rw [hw1]; exact (((Blk.newAt _ _ _ (fun i => limb i be) e0).alloc _).alloc _).alloc _
  have b16 : Blk w1 25 N16 (fun i => limb i ga) := by rw [hw1]; exact ((Blk.newAt _ _ _ (fun i => limb i ga) (by rw [e1, e0, hs1])).alloc _).alloc _
  have b17 : Lay w1 36 N17 #[.slice oc m cm, .int .i64 0] := by rw [hw1]; exact (Lay.newAt _ _ _ (by rw [e2, e1, e0, hs2])).alloc _
  have b18 : Lay w1 36 N18 #[.slice none 0 0, .int .i64 0] := by rw [hw1]; exact Lay.newAt _ _ _ (by rw [e3, e2, e1, e0, hs3])
  have hb1 : Below w.heap.size w w1 := by rw [hw1]; exact bAlloc (bAlloc (bAlloc (bAlloc (Below.refl _ _) _) _) _) _
  rw [← hw1]
  try rw [← e0]
  try rw [← e1]
  try rw [← e2]
  try rw [← e3]
  have l15 : w.heap.size ≤ N15 := by omega
  have l16 : w.heap.size ≤ N16 := by omega
  have l17 : w.heap.size ≤ N17 := by omega
  have l18 : w.heap.size ≤ N18 := by omega
  have n15_16 : N15 ≠ N16 := by omega
  have n15_17 : N15 ≠ N17 := by omega
  have n15_18 : N15 ≠ N18 := by omega
  have n16_17 : N16 ≠ N17 := by omega
  have n16_18 : N16 ≠ N18 := by omega
  have n17_18 : N17 ≠ N18 := by omega
  clear hw1 e0 e1 e2 e3 hs1 hs2 hs3
  go_upto_region 11 with fail
  obtain ⟨BZ, eBZ⟩ : ∃ z, z = w1.heap.size := ⟨_, rfl⟩
  obtain ⟨w2, hw2⟩ : ∃ z : World, z = (w1.alloc (.cells #[.int .u64 1, .int .u64 0, .int .u64 0, .int .u64 0] 25)).alloc (.cells #[.int .u64 0, .int .u64 0, .int .u64 0, .int .u64 0] 25) := ⟨_, rfl⟩
  obtain ⟨N24, e24⟩ : ∃ z, z = (w1.alloc (.cells #[.int .u64 1, .int .u64 0, .int .u64 0, .int .u64 0] 25)).heap.size := ⟨_, rfl⟩
  have n24 : N24 = BZ + 1 := by rw [e24, eBZ]; exact Array.size_push ..
  have b24 : Blk w2 25 N24 (fun _ => 0) := by rw [hw2]; exact Blk.newAt _ _ _ (fun _ => 0) e24
  have own2 : OwnL w2 BZ (.slice (some ⟨BZ, 0, none⟩) 1 1) (zL Z 0) := by
    have h := (ownL_one w1 w1.heap.size 1 (Nat.le_refl _)).alloc (.cells #[.int .u64 0, .int .u64 0, .int .u64 0, .int .u64 0] 25)
    rw [show (#[.int .u64 ((limb 0 (1) : Nat) : Int), .int .u64 ((limb 1 (1) : Nat) : Int), .int .u64 ((limb 2 (1) : Nat) : Int), .int .u64 ((limb 3 (1) : Nat) : Int)] : Array Value) = #[.int .u64 1, .int .u64 0, .int .u64 0, .int .u64 0] from Value.agg.inj one_agg] at h
    rw [hw2, eBZ, show zL Z 0 = [1] by unfold zL; simp [HZ0.out]]
    exact h
  have hbB : Below BZ w1 w2 := by rw [hw2, eBZ]; exact bAlloc (bAlloc (Below.refl _ _) _) _
  have lBZ : BZ ≤ w2.heap.size := by have := b24.lt; omega
  have lw : w.heap.size ≤ BZ := by rw [eBZ]; exact hb1.size
  have x15 := b15.lt; have x16 := b16.lt; have x17 := b17.lt; have x18 := b18.lt
  rw [← eBZ] at x15 x16 x17 x18
  have H15 : Hid (Blk w2 25 N15 (fun i => limb i be) ∧ N15 < BZ) := ⟨b15.below hbB x15, x15⟩
  have H16 : Hid (Blk w2 25 N16 (fun i => limb i ga) ∧ N16 < BZ) := ⟨b16.below hbB x16, x16⟩
  have H17 : Hid (Lay w2 36 N17 #[.slice oc m cm, .int .i64 0] ∧ N17 < BZ) := ⟨b17.below hbB x17, x17⟩
  have H18 : Hid (Lay w2 36 N18 #[.slice none 0 0, .int .i64 0] ∧ N18 < BZ) := ⟨b18.below hbB x18, x18⟩
  have hb2 : Below w.heap.size w w2 := hb1.trans (hbB.mono lw)
  have HB2 : Hid (Below w.heap.size w w2) := hb2
  try rw [← eBZ]
  try rw [← e24]
  rw [← hw2]
  try rw [← n24]
  have HLW : Hid (w.heap.size ≤ BZ ∧ N24 = BZ + 1) := ⟨lw, n24⟩
  clear hw2 eBZ e24 hbB x15 x16 x17 x18 b15 b16 b17 b18 hb1 hb2 l15 l16 HZ0 n24
  go_wp2
  go_loopw [23, 25] (fun zv jv wr => ∃ j : Nat, jv = .int .i64 (j : Int) ∧ j ≤ U ∧ OwnL wr BZ zv (zL Z j) ∧ Hid (∀ i, i < j → B i ≠ 0) ∧ Below BZ w2 wr ∧ Blk wr 25 N24 (fun _ => 0) ∧ Hid (∀ g, zv.ownBlock = some g → g ≠ N24) ∧ BZ ≤ wr.heap.size) (fun _ jv _ => U - (intOf jv).toNat)
  case atStart => exact ⟨0, rfl, Nat.zero_le _, own2, fun i hi => absurd hi (Nat.not_lt_zero i), Below.refl _ _, b24, fun g hg => by have h : BZ = g := Option.some.inj hg; have := HLW.out.2; omega, lBZ⟩
  case round =>
    obtain ⟨j, rfl, hj, own, HNB, hb, b24r, HNE, lBr⟩ := hrel
    clear own2 b24 lBZ
    by_cases hlt : j < U
    · have hji : (j : Int) < (U : Int) := by omega
      obtain ⟨L, eL⟩ : ∃ L, L = zL Z j := ⟨_, rfl⟩
      have HL : Hid (L.length = j + 1 ∧ L.getD j 0 = Z j ∧ zL Z (j + 1) = L ++ [Z (j + 1)]) := by rw [eL]; exact ⟨zL_len _ _, zL_at _ _, zL_succ _ _⟩
      rw [← eL] at own
      clear eL
      have hjl : (j : Int) < (L.length : Int) := by have := HL.out.1; omega
      have hjL : j < L.length := by omega
      have hL9 : L.length ≤ 1000 := by have := HL.out.1; have := HUP.out.2; omega
      obtain ⟨p, ep⟩ : ∃ z, z = Z j := ⟨_, rfl⟩
      have hbw : Below w.heap.size w wr := HB2.out.trans (hb.mono HLW.out.1)
      have lwr : w.heap.size ≤ wr.heap.size := hbw.size
      obtain ⟨la0, hcl0⟩ := H0.out
      obtain ⟨p0, ep0⟩ : ∃ z, z = F0 j := ⟨_, rfl⟩
      have RF0 : Rd4 wr a0 (o0 + j * 4) p0 := by
        rw [ep0]
        exact ⟨(hbw.cell (p := ⟨a0, o0 + j * 4 + 0, none⟩) la0).trans (hcl0 j hlt 0 (by decide)), (hbw.cell (p := ⟨a0, o0 + j * 4 + 1, none⟩) la0).trans (hcl0 j hlt 1 (by decide)), (hbw.cell (p := ⟨a0, o0 + j * 4 + 2, none⟩) la0).trans (hcl0 j hlt 2 (by decide)), (hbw.cell (p := ⟨a0, o0 + j * 4 + 3, none⟩) la0).trans (hcl0 j hlt 3 (by decide))⟩
      have lf0 : a0 < wr.heap.size := Nat.lt_of_lt_of_le la0 lwr
      have ly0 : a0 < BZ := Nat.lt_of_lt_of_le la0 HLW.out.1
      obtain ⟨la1, hcl1⟩ := H1.out
      obtain ⟨p1, ep1⟩ : ∃ z, z = F1 j := ⟨_, rfl⟩
      have RF1 : Rd4 wr a1 (o1 + j * 4) p1 := by
        rw [ep1]
        exact ⟨(hbw.cell (p := ⟨a1, o1 + j * 4 + 0, none⟩) la1).trans (hcl1 j hlt 0 (by decide)), (hbw.cell (p := ⟨a1, o1 + j * 4 + 1, none⟩) la1).trans (hcl1 j hlt 1 (by decide)), (hbw.cell (p := ⟨a1, o1 + j * 4 + 2, none⟩) la1).trans (hcl1 j hlt 2 (by decide)), (hbw.cell (p := ⟨a1, o1 + j * 4 + 3, none⟩) la1).trans (hcl1 j hlt 3 (by decide))⟩
      have lf1 : a1 < wr.heap.size := Nat.lt_of_lt_of_le la1 lwr
      have ly1 : a1 < BZ := Nat.lt_of_lt_of_le la1 HLW.out.1
      obtain ⟨la2, hcl2⟩ := H2.out
      obtain ⟨p2, ep2⟩ : ∃ z, z = F2 j := ⟨_, rfl⟩
      have RF2 : Rd4 wr a2 (o2 + j * 4) p2 := by
        rw [ep2]
        exact ⟨(hbw.cell (p := ⟨a2, o2 + j * 4 + 0, none⟩) la2).trans (hcl2 j hlt 0 (by decide)), (hbw.cell (p := ⟨a2, o2 + j * 4 + 1, none⟩) la2).trans (hcl2 j hlt 1 (by decide)), (hbw.cell (p := ⟨a2, o2 + j * 4 + 2, none⟩) la2).trans (hcl2 j hlt 2 (by decide)), (hbw.cell (p := ⟨a2, o2 + j * 4 + 3, none⟩) la2).trans (hcl2 j hlt 3 (by decide))⟩
      have lf2 : a2 < wr.heap.size := Nat.lt_of_lt_of_le la2 lwr
      have ly2 : a2 < BZ := Nat.lt_of_lt_of_le la2 HLW.out.1
      obtain ⟨la3, hcl3⟩ := H3.out
      obtain ⟨p3, ep3⟩ : ∃ z, z = F3 j := ⟨_, rfl⟩
      have RF3 : Rd4 wr a3 (o3 + j * 4) p3 := by
        rw [ep3]
        exact ⟨(hbw.cell (p := ⟨a3, o3 + j * 4 + 0, none⟩) la3).trans (hcl3 j hlt 0 (by decide)), (hbw.cell (p := ⟨a3, o3 + j * 4 + 1, none⟩) la3).trans (hcl3 j hlt 1 (by decide)), (hbw.cell (p := ⟨a3, o3 + j * 4 + 2, none⟩) la3).trans (hcl3 j hlt 2 (by decide)), (hbw.cell (p := ⟨a3, o3 + j * 4 + 3, none⟩) la3).trans (hcl3 j hlt 3 (by decide))⟩
      have lf3 : a3 < wr.heap.size := Nat.lt_of_lt_of_le la3 lwr
      have ly3 : a3 < BZ := Nat.lt_of_lt_of_le la3 HLW.out.1
      have HX2 : Hid (∀ w', Below wr.heap.size wr w' → w'.cell? ⟨a2, o2 + j * 4, none⟩ = some (.int .u64 ((limb 0 p2 : Nat) : Int)) ∧ w'.cell? ⟨a2, o2 + j * 4 + 1, none⟩ = some (.int .u64 ((limb 1 p2 : Nat) : Int)) ∧ w'.cell? ⟨a2, o2 + j * 4 + 2, none⟩ = some (.int .u64 ((limb 2 p2 : Nat) : Int)) ∧ w'.cell? ⟨a2, o2 + j * 4 + 3, none⟩ = some (.int .u64 ((limb 3 p2 : Nat) : Int))) := fun w' hb => RF2.below hb lf2
      have HX3 : Hid (∀ w', Below wr.heap.size wr w' → w'.cell? ⟨a3, o3 + j * 4, none⟩ = some (.int .u64 ((limb 0 p3 : Nat) : Int)) ∧ w'.cell? ⟨a3, o3 + j * 4 + 1, none⟩ = some (.int .u64 ((limb 1 p3 : Nat) : Int)) ∧ w'.cell? ⟨a3, o3 + j * 4 + 2, none⟩ = some (.int .u64 ((limb 2 p3 : Nat) : Int)) ∧ w'.cell? ⟨a3, o3 + j * 4 + 3, none⟩ = some (.int .u64 ((limb 3 p3 : Nat) : Int))) := fun w' hb => RF3.below hb lf3
      have b15r := H15.out.1.below hb H15.out.2; have b16r := H16.out.1.below hb H16.out.2
      have HTB : Hid (∀ w, Calls Tryd.prog 19 #[.int .i64 si, .agg #[.int .u64 ((limb 0 (p2) : Nat) : Int), .int .u64 ((limb 1 (p2) : Nat) : Int), .int .u64 ((limb 2 (p2) : Nat) : Int), .int .u64 ((limb 3 (p2) : Nat) : Int)], .agg #[.int .u64 ((limb 0 (be) : Nat) : Int), .int .u64 ((limb 1 (be) : Nat) : Int), .int .u64 ((limb 2 (be) : Nat) : Int), .int .u64 ((limb 3 (be) : Nat) : Int)], .agg #[.int .u64 ((limb 0 (p3) : Nat) : Int), .int .u64 ((limb 1 (p3) : Nat) : Int), .int .u64 ((limb 2 (p3) : Nat) : Int), .int .u64 ((limb 3 (p3) : Nat) : Int)], .agg #[.int .u64 ((limb 0 (ga) : Nat) : Int), .int .u64 ((limb 1 (ga) : Nat) : Int), .int .u64 ((limb 2 (ga) : Nat) : Int), .int .u64 ((limb 3 (ga) : Nat) : Int)]] w fun e w' => e = .returned (.agg #[.int .u64 ((limb 0 (B j) : Nat) : Int), .int .u64 ((limb 1 (B j) : Nat) : Int), .int .u64 ((limb 2 (B j) : Nat) : Int), .int .u64 ((limb 3 (B j) : Nat) : Int)]) ∧ Below w.heap.size w w') := by rw [ep2, ep3]; exact HT2.out j hlt
      have HTA : Hid (∀ w, Calls Tryd.prog 19 #[.int .i64 si, .agg #[.int .u64 ((limb 0 (p0) : Nat) : Int), .int .u64 ((limb 1 (p0) : Nat) : Int), .int .u64 ((limb 2 (p0) : Nat) : Int), .int .u64 ((limb 3 (p0) : Nat) : Int)], .agg #[.int .u64 ((limb 0 (be) : Nat) : Int), .int .u64 ((limb 1 (be) : Nat) : Int), .int .u64 ((limb 2 (be) : Nat) : Int), .int .u64 ((limb 3 (be) : Nat) : Int)], .agg #[.int .u64 ((limb 0 (p1) : Nat) : Int), .int .u64 ((limb 1 (p1) : Nat) : Int), .int .u64 ((limb 2 (p1) : Nat) : Int), .int .u64 ((limb 3 (p1) : Nat) : Int)], .agg #[.int .u64 ((limb 0 (ga) : Nat) : Int), .int .u64 ((limb 1 (ga) : Nat) : Int), .int .u64 ((limb 2 (ga) : Nat) : Int), .int .u64 ((limb 3 (ga) : Nat) : Int)]] w fun e w' => e = .returned (.agg #[.int .u64 ((limb 0 (A j) : Nat) : Int), .int .u64 ((limb 1 (A j) : Nat) : Int), .int .u64 ((limb 2 (A j) : Nat) : Int), .int .u64 ((limb 3 (A j) : Nat) : Int)]) ∧ Below w.heap.size w w') := by rw [ep0, ep1]; exact HT1.out j hlt
      have HBJ : Hid (B j ≠ 0 → ∀ w, _) := HBY.out j hlt
      have HMJ : Hid (∀ w, _) := HMU.out j hlt
      have hyM : B j < 115792089237316195423570985008687907853269984665640564039457584007913129639936 := HBM.out j hlt
      obtain ⟨y, ey⟩ : ∃ z, z = B j := ⟨_, rfl⟩
      obtain ⟨x, ex⟩ : ∃ z, z = A j := ⟨_, rfl⟩
      obtain ⟨v, ev⟩ : ∃ z, z = V j := ⟨_, rfl⟩
      obtain ⟨z1, ez1⟩ : ∃ z, z = Z (j + 1) := ⟨_, rfl⟩
      rw [← ey] at HTB HBJ hyM
      rw [← ex] at HTA HBJ
      rw [← ev] at HBJ HMJ
      rw [← ez1] at HMJ HL
      rw [← ep] at HL HMJ
      have HYB : Hid (y = B j) := ey
      clear ep0 ep1 ep2 ep3 ep ey ex ev ez1 la0 la1 la2 la3 hcl0 hcl1 hcl2 hcl3
      have hes := own.es
      rcases own.2 with ⟨_, h0⟩ | ⟨zb, cap, cur, rfl, hbz, hgz, hcp, hcm, hcs, htk⟩
      · exact absurd h0 (by omega)
      rcases hes with ⟨hc0, _⟩ | ⟨ab, ao, c', hvz, _, _, lab, hcl⟩
      · cases hc0
      cases hvz
      have z0 := hcl j hjL 0 (by decide); have z1' := hcl j hjL 1 (by decide); have z2 := hcl j hjL 2 (by decide); have z3 := hcl j hjL 3 (by decide)
      simp only [Nat.zero_add, Nat.add_zero] at z0 z1' z2 z3
      rw [HL.out.2.1] at z0 z1' z2 z3
      have RZ : Rd4 wr zb (j * 4) p := ⟨z0, z1', z2, z3⟩
      have nz24 : zb ≠ N24 := HNE.out zb rfl
      clear z0 z1' z2 z3 hcl hgz hcs htk HNE
      go_upto_region 14 with fail
      have HS0 : Hid (Below wr.heap.size wr wr.drew) := (Below.refl _ _).drew
      refine wp_region_Z (fun w' => Kp wr w') 99 (by kernel_rfl) ?_
      refine wpZ_take (i := 0) (v := .int .i64 si) 80 rfl rfl (by kernel_rfl) (by kernel_rfl) (by kernel_rfl) (Or.inr (by decide)) (fun _ _ _ h => h) (Or.inl ⟨by rfl, fun w hSw => by go_simp⟩) (HS0.out) ?_
      simp only [Act.put, List.setIfInBounds_toArray]
      dsimp only [List.set_cons_zero, List.set_cons_succ]
      refine wpZ_take (i := 1) (v := .slice (some ⟨a2, o2, none⟩) U c2) 81 rfl rfl (by kernel_rfl) (by kernel_rfl) (by kernel_rfl) (Or.inr (by decide)) (fun _ _ _ h => h) (Or.inl ⟨by rfl, fun w hSw => by go_simp⟩) (HS0.out) ?_
      simp only [Act.put, List.setIfInBounds_toArray]
      dsimp only [List.set_cons_zero, List.set_cons_succ]
      refine wpZ_take (i := 2) (v := .int .i64 (j : Int)) 82 rfl rfl (by kernel_rfl) (by kernel_rfl) (by kernel_rfl) (Or.inr (by decide)) (fun _ _ _ h => h) (Or.inl ⟨by rfl, fun w hSw => by go_simp⟩) (HS0.out) ?_
      simp only [Act.put, List.setIfInBounds_toArray]
      dsimp only [List.set_cons_zero, List.set_cons_succ]
      refine wpZ_take (i := 3) (v := .pointer (some ⟨a2, o2 + j * 4, none⟩)) 83 rfl rfl (by kernel_rfl) (by kernel_rfl) (by kernel_rfl) (Or.inr (by decide)) (fun _ _ _ h => h) (Or.inl ⟨by rfl, fun w hSw => by go_simp⟩) (HS0.out) ?_
      simp only [Act.put, List.setIfInBounds_toArray]
      dsimp only [List.set_cons_zero, List.set_cons_succ]
      refine wpZ_take (i := 4) (v := .agg #[.int .u64 ((limb 0 (p2) : Nat) : Int), .int .u64 ((limb 1 (p2) : Nat) : Int), .int .u64 ((limb 2 (p2) : Nat) : Int), .int .u64 ((limb 3 (p2) : Nat) : Int)]) 84 rfl rfl (by kernel_rfl) (by kernel_rfl) (by kernel_rfl) (Or.inr (by decide)) (fun _ _ _ h => h) (Or.inl ⟨by rfl, fun w hSw => by (obtain ⟨q0, q1, q2, q3⟩ := HX2.out w hSw; clear hSw; go_simp)⟩) (HS0.out) ?_
      simp only [Act.put, List.setIfInBounds_toArray]
      dsimp only [List.set_cons_zero, List.set_cons_succ]
      refine wpZ_take (i := 5) (v := .agg #[.int .u64 ((limb 0 (be) : Nat) : Int), .int .u64 ((limb 1 (be) : Nat) : Int), .int .u64 ((limb 2 (be) : Nat) : Int), .int .u64 ((limb 3 (be) : Nat) : Int)]) 85 rfl rfl (by kernel_rfl) (by kernel_rfl) (by kernel_rfl) (Or.inr (by decide)) (fun _ _ _ h => h) (Or.inl ⟨by rfl, fun w hSw => by (have qq := (b15r.belowAll hSw).cell; clear hSw; go_simp)⟩) (HS0.out) ?_
      simp only [Act.put, List.setIfInBounds_toArray]
      dsimp only [List.set_cons_zero, List.set_cons_succ]
      refine wpZ_take (i := 6) (v := .slice (some ⟨a3, o3, none⟩) U c3) 86 rfl rfl (by kernel_rfl) (by kernel_rfl) (by kernel_rfl) (Or.inr (by decide)) (fun _ _ _ h => h) (Or.inl ⟨by rfl, fun w hSw => by go_simp⟩) (HS0.out) ?_
      simp only [Act.put, List.setIfInBounds_toArray]
      dsimp only [List.set_cons_zero, List.set_cons_succ]
      refine wpZ_take (i := 7) (v := .int .i64 (j : Int)) 87 rfl rfl (by kernel_rfl) (by kernel_rfl) (by kernel_rfl) (Or.inr (by decide)) (fun _ _ _ h => h) (Or.inl ⟨by rfl, fun w hSw => by go_simp⟩) (HS0.out) ?_
      simp only [Act.put, List.setIfInBounds_toArray]
      dsimp only [List.set_cons_zero, List.set_cons_succ]
      refine wpZ_take (i := 8) (v := .pointer (some ⟨a3, o3 + j * 4, none⟩)) 88 rfl rfl (by kernel_rfl) (by kernel_rfl) (by kernel_rfl) (Or.inr (by decide)) (fun _ _ _ h => h) (Or.inl ⟨by rfl, fun w hSw => by go_simp⟩) (HS0.out) ?_
      simp only [Act.put, List.setIfInBounds_toArray]
      dsimp only [List.set_cons_zero, List.set_cons_succ]
      refine wpZ_take (i := 9) (v := .agg #[.int .u64 ((limb 0 (p3) : Nat) : Int), .int .u64 ((limb 1 (p3) : Nat) : Int), .int .u64 ((limb 2 (p3) : Nat) : Int), .int .u64 ((limb 3 (p3) : Nat) : Int)]) 89 rfl rfl (by kernel_rfl) (by kernel_rfl) (by kernel_rfl) (Or.inr (by decide)) (fun _ _ _ h => h) (Or.inl ⟨by rfl, fun w hSw => by (obtain ⟨q0, q1, q2, q3⟩ := HX3.out w hSw; clear hSw; go_simp)⟩) (HS0.out) ?_
      simp only [Act.put, List.setIfInBounds_toArray]
      dsimp only [List.set_cons_zero, List.set_cons_succ]
      refine wpZ_take (i := 10) (v := .agg #[.int .u64 ((limb 0 (ga) : Nat) : Int), .int .u64 ((limb 1 (ga) : Nat) : Int), .int .u64 ((limb 2 (ga) : Nat) : Int), .int .u64 ((limb 3 (ga) : Nat) : Int)]) 90 rfl rfl (by kernel_rfl) (by kernel_rfl) (by kernel_rfl) (Or.inr (by decide)) (fun _ _ _ h => h) (Or.inl ⟨by rfl, fun w hSw => by (have qq := (b16r.belowAll hSw).cell; clear hSw; go_simp)⟩) (HS0.out) ?_
      simp only [Act.put, List.setIfInBounds_toArray]
      dsimp only [List.set_cons_zero, List.set_cons_succ]
      refine wpZ_two (i := 11) (j := 12) (by kernel_rfl) rfl rfl (fun K hK => ?_) (fun K hK => ?_) 
      · go_simp
        refine (HTB.out wr.drew).mono ?_
        rintro e wK1 ⟨rfl, hbK1⟩
        have hSK1 : Below wr.heap.size wr wK1 := bStep (HS0.out) hbK1
        go_wp2_with fail
        refine hK.out _ _ (fun _ => hSK1) ?_
        clear hK K
        refine wpZ_one (i := 12) (by kernel_rfl) rfl (fun K hK => ?_)
        go_simp
        have hSK2' : Below wr.heap.size wr (wK1.alloc (.cells #[.int .u64 0, .int .u64 0, .int .u64 0, .int .u64 0] 25)) := bAlloc (hSK1) _
        refine hK.out _ _ (fun _ => hSK2') ?_
        clear hK K
        obtain ⟨N26_2, hN26_2⟩ : ∃ N, N = wK1.heap.size := ⟨_, rfl⟩
        obtain ⟨wK2, hwK2⟩ : ∃ x : World, x = wK1.alloc (.cells #[.int .u64 0, .int .u64 0, .int .u64 0, .int .u64 0] 25) := ⟨_, rfl⟩
        have hSK2 : Below wr.heap.size wr wK2 := by rw [hwK2]; exact hSK2'
        have b26_2 : Blk wK2 25 N26_2 (fun _ => 0) := by rw [hwK2, hN26_2]; exact Blk.new wK1 25 (fun _ => 0)
        have lN26_2 : wr.heap.size ≤ N26_2 := by rw [hN26_2]; exact (hSK1).size
        rw [← hwK2, ← hN26_2]
        clear hwK2 hSK2' hN26_2
        refine wpZ_one (i := 13) (by kernel_rfl) rfl (fun K hK => ?_)
        have cS := b26_2.cell; have fS := b26_2.frozen
        go_simp
        refine hK.out _ _ (fun _ => bSet4 (hSK2) lN26_2 _ _ _ _) ?_
        clear hK K cS fS
        obtain ⟨wK3, hwK3⟩ : ∃ x : World, x = ((((wK2.setCell ⟨N26_2, 0, none⟩ (.int .u64 ((limb 0 y : Nat) : Int))).setCell ⟨N26_2, 1, none⟩ (.int .u64 ((limb 1 y : Nat) : Int))).setCell ⟨N26_2, 2, none⟩ (.int .u64 ((limb 2 y : Nat) : Int))).setCell ⟨N26_2, 3, none⟩ (.int .u64 ((limb 3 y : Nat) : Int))) := ⟨_, rfl⟩
        have hSK3 : Below wr.heap.size wr wK3 := by rw [hwK3]; exact bSet4 (hSK2) lN26_2 _ _ _ _
        have b26_3 : Blk wK3 25 N26_2 (fun i => limb i y) := by rw [hwK3]; exact b26_2.set4 (fun i => limb i y)
        rw [← hwK3]
        clear hwK3
        refine wpZ_done (by kernel_rfl) ?_ _
        obtain ⟨wa, hwa⟩ : ∃ z : World, z = wK3 := ⟨_, rfl⟩
        obtain ⟨N26, e26⟩ : ∃ z, z = N26_2 := ⟨_, rfl⟩
        have hSa : Below wr.heap.size wr wa := by rw [hwa]; exact hSK3
        have b26 : Blk wa 25 N26 (fun i => limb i y) := by rw [hwa, e26]; exact b26_3
        have l26 : wr.heap.size ≤ N26 := by rw [e26]; exact lN26_2
        rw [← hwa]
        try rw [← e26]
        clear hwa e26
        have own5 := own.below (hSa)
        have K0 := RZ.below hSa lab
        have K1 := RF0.below hSa lf0
        have K3 := RF1.below hSa lf1
        have K2 : Rd4 wa N15 0 be := by have c := (b15r.belowAll hSa).cell; exact ⟨c 0 (by decide), c 1 (by decide), c 2 (by decide), c 3 (by decide)⟩
        have K4 : Rd4 wa N16 0 ga := by have c := (b16r.belowAll hSa).cell; exact ⟨c 0 (by decide), c 1 (by decide), c 2 (by decide), c 3 (by decide)⟩
        have K5 : Rd4 wa N26 0 y := by have c := b26.cell; exact ⟨c 0 (by decide), c 1 (by decide), c 2 (by decide), c 3 (by decide)⟩
        have b24a := b24r.belowAll hSa
        have l24 := b24a.lt
        have lba := hSa.size
        have hba : Below BZ w2 wa := hb.trans (hSa.mono lBr)
        have lBa : BZ ≤ wa.heap.size := Nat.le_trans lBr lba
        have kl0 : zb < wa.heap.size := Nat.lt_of_lt_of_le lab lba
        have kl1 : a0 < wa.heap.size := Nat.lt_of_lt_of_le lf0 lba
        have kl3 : a1 < wa.heap.size := Nat.lt_of_lt_of_le lf1 lba
        have x15 := H15.out.2; have x16 := H16.out.2
        have kl2 : N15 < wa.heap.size := Nat.lt_of_lt_of_le x15 lBa
        have kl4 : N16 < wa.heap.size := Nat.lt_of_lt_of_le x16 lBa
        have kl5 : N26 < wa.heap.size := b26.lt
        have ne26 : N26 ≠ zb := by omega
        clear RZ RF0 RF1 RF2 RF3 HX2 HX3 own b15r b16r HTB lf2 lf3
        by_cases hy0 : y = 0
        · have hq : ∀ w, (binOp .eql 25 (.agg #[.int .u64 ((limb 0 (y) : Nat) : Int), .int .u64 ((limb 1 (y) : Nat) : Int), .int .u64 ((limb 2 (y) : Nat) : Int), .int .u64 ((limb 3 (y) : Nat) : Int)]) (.agg #[.int .u64 ((limb 0 (0) : Nat) : Int), .int .u64 ((limb 1 (0) : Nat) : Int), .int .u64 ((limb 2 (0) : Nat) : Int), .int .u64 ((limb 3 (0) : Nat) : Int)])).run Tryd.prog w = .ok (.bool true) w := fun w => by have h := eqlE2 y 0 hyM M_pos w; rw [decide_eq_true hy0] at h; exact h
          have HY0 : Hid (B j = 0) := by rw [← HYB.out]; exact hy0
          clear hy0
          rw [zE] at hq
          have c26 := b26.cell; have c24 := b24a.cell
          have b17 := H17.out.1.below hba H17.out.2; have b18 := H18.out.1.below hba H18.out.2
          have hbwa : Below w.heap.size w wa := HB2.out.trans (hba.mono HLW.out.1)
          clear K0 K1 K2 K3 K4 K5 hba hSa b26 b24a own5 HTA HBJ HMJ hb
          have q0 := b17.at (o := 0) rfl; have q1 := b17.at (o := 1) rfl
          have f0 := b18.frozen.1; have f1 := b18.frozen.2
          obtain ⟨p0v, p0⟩ : ∃ v, wa.cell? ⟨N18, 0, none⟩ = some v := ⟨_, b18.at (o := 0) rfl⟩
          obtain ⟨p1v, p1⟩ : ∃ v, wa.cell? ⟨N18, 1, none⟩ = some v := ⟨_, b18.at (o := 1) rfl⟩
          obtain ⟨w9, hw9, e9, hk9⟩ := b18.put2 (.slice oc m cm) (.int .i64 0)
          have hbe := bKept hbwa l18 hk9
          have r0 := e9.at (o := 0) rfl; have r1 := e9.at (o := 1) rfl
          clear hk9 b18
          go_wp2
          refine bodyPost_ret (v := .tuple #[.agg #[.slice oc m cm, .int .i64 0], .slice none 0 0, .int .i64 100]) (by simp [results, Tryd.results8, go_sem, r0, r1]) rfl ⟨Or.inl ⟨⟨j, hlt, HY0.out⟩, rfl⟩, hbe⟩
        · have hq : ∀ w, (binOp .eql 25 (.agg #[.int .u64 ((limb 0 (y) : Nat) : Int), .int .u64 ((limb 1 (y) : Nat) : Int), .int .u64 ((limb 2 (y) : Nat) : Int), .int .u64 ((limb 3 (y) : Nat) : Int)]) (.agg #[.int .u64 ((limb 0 (0) : Nat) : Int), .int .u64 ((limb 1 (0) : Nat) : Int), .int .u64 ((limb 2 (0) : Nat) : Int), .int .u64 ((limb 3 (0) : Nat) : Int)])).run Tryd.prog w = .ok (.bool false) w := fun w => by have h := eqlE2 y 0 hyM M_pos w; rw [decide_eq_false hy0] at h; exact h
          have HY0 : Hid (B j ≠ 0) := by rw [← HYB.out]; exact hy0
          have HBV : Hid (∀ w, Calls Tryd.prog 21 #[.int .i64 si, .agg #[.int .u64 ((limb 0 (x) : Nat) : Int), .int .u64 ((limb 1 (x) : Nat) : Int), .int .u64 ((limb 2 (x) : Nat) : Int), .int .u64 ((limb 3 (x) : Nat) : Int)], .agg #[.int .u64 ((limb 0 (y) : Nat) : Int), .int .u64 ((limb 1 (y) : Nat) : Int), .int .u64 ((limb 2 (y) : Nat) : Int), .int .u64 ((limb 3 (y) : Nat) : Int)]] w fun e w' => e = .returned (.agg #[.int .u64 ((limb 0 (v) : Nat) : Int), .int .u64 ((limb 1 (v) : Nat) : Int), .int .u64 ((limb 2 (v) : Nat) : Int), .int .u64 ((limb 3 (v) : Nat) : Int)]) ∧ Below w.heap.size w w') := HBJ.out hy0
          clear hy0 HBJ
          rw [zE] at hq
          have c26 := b26.cell; have c24 := b24a.cell
          go_upto_region 17 with fail
          clear hq c26 c24 b26
          refine wp_region_Z (fun w' => Rd4 w' zb (j * 4) p ∧ Rd4 w' a0 (o0 + j * 4) p0 ∧ Rd4 w' N15 0 be ∧ Rd4 w' a1 (o1 + j * 4) p1 ∧ Rd4 w' N16 0 ga ∧ Rd4 w' N26 0 y) 99 (by kernel_rfl) ?_
          obtain ⟨wD, hD⟩ : ∃ z : World, z = wa.drew := ⟨_, rfl⟩
          rw [← hD]
          have lowD : Below wa.heap.size wa wD := by rw [hD]; exact (Below.refl _ _).drew
          clear hD
          have HS0 : Rd4 wD zb (j * 4) p ∧ Rd4 wD a0 (o0 + j * 4) p0 ∧ Rd4 wD N15 0 be ∧ Rd4 wD a1 (o1 + j * 4) p1 ∧ Rd4 wD N16 0 ga ∧ Rd4 wD N26 0 y := ⟨K0.below lowD kl0, K1.below lowD kl1, K2.below lowD kl2, K3.below lowD kl3, K4.below lowD kl4, K5.below lowD kl5⟩
          refine wpZ_take (i := 0) (v := .slice (some ⟨zb, 0, none⟩) L.length cap) 96 rfl rfl (by kernel_rfl) (by kernel_rfl) (by kernel_rfl) (Or.inr (by decide)) (fun _ _ _ h => h) (Or.inl ⟨by rfl, fun w hSw => by go_simp⟩) HS0 ?_
          simp only [Act.put, List.setIfInBounds_toArray]
          try dsimp only [List.set_cons_zero, List.set_cons_succ]
          refine wpZ_take (i := 1) (v := .int .i64 si) 97 rfl rfl (by kernel_rfl) (by kernel_rfl) (by kernel_rfl) (Or.inr (by decide)) (fun _ _ _ h => h) (Or.inl ⟨by rfl, fun w hSw => by go_simp⟩) HS0 ?_
          simp only [Act.put, List.setIfInBounds_toArray]
          try dsimp only [List.set_cons_zero, List.set_cons_succ]
          refine wpZ_take (i := 2) (v := .slice (some ⟨zb, 0, none⟩) L.length cap) 98 rfl rfl (by kernel_rfl) (by kernel_rfl) (by kernel_rfl) (Or.inr (by decide)) (fun _ _ _ h => h) (Or.inl ⟨by rfl, fun w hSw => by go_simp⟩) HS0 ?_
          simp only [Act.put, List.setIfInBounds_toArray]
          try dsimp only [List.set_cons_zero, List.set_cons_succ]
          refine wpZ_take (i := 3) (v := .int .i64 (j : Int)) 99 rfl rfl (by kernel_rfl) (by kernel_rfl) (by kernel_rfl) (Or.inr (by decide)) (fun _ _ _ h => h) (Or.inl ⟨by rfl, fun w hSw => by go_simp⟩) HS0 ?_
          simp only [Act.put, List.setIfInBounds_toArray]
          try dsimp only [List.set_cons_zero, List.set_cons_succ]
          refine wpZ_take (i := 4) (v := .pointer (some ⟨zb, j * 4, none⟩)) 100 rfl rfl (by kernel_rfl) (by kernel_rfl) (by kernel_rfl) (Or.inr (by decide)) (fun _ _ _ h => h) (Or.inl ⟨by rfl, fun w hSw => by go_simp⟩) HS0 ?_
          simp only [Act.put, List.setIfInBounds_toArray]
          try dsimp only [List.set_cons_zero, List.set_cons_succ]
          refine wpZ_take (i := 5) (v := .agg #[.int .u64 ((limb 0 (p) : Nat) : Int), .int .u64 ((limb 1 (p) : Nat) : Int), .int .u64 ((limb 2 (p) : Nat) : Int), .int .u64 ((limb 3 (p) : Nat) : Int)]) 101 rfl rfl (by kernel_rfl) (by kernel_rfl) (by kernel_rfl) (Or.inr (by decide)) (fun _ _ _ h => h) (Or.inl ⟨by rfl, fun w hSw => by (obtain ⟨q0, q1, q2, q3⟩ : w.cell? ⟨zb, j * 4, none⟩ = _ ∧ w.cell? ⟨zb, j * 4 + 1, none⟩ = _ ∧ w.cell? ⟨zb, j * 4 + 2, none⟩ = _ ∧ w.cell? ⟨zb, j * 4 + 3, none⟩ = _ := hSw.1; clear hSw; go_simp)⟩) HS0 ?_
          simp only [Act.put, List.setIfInBounds_toArray]
          try dsimp only [List.set_cons_zero, List.set_cons_succ]
          refine wpZ_take (i := 6) (v := .int .i64 si) 102 rfl rfl (by kernel_rfl) (by kernel_rfl) (by kernel_rfl) (Or.inr (by decide)) (fun _ _ _ h => h) (Or.inl ⟨by rfl, fun w hSw => by go_simp⟩) HS0 ?_
          simp only [Act.put, List.setIfInBounds_toArray]
          try dsimp only [List.set_cons_zero, List.set_cons_succ]
          refine wpZ_take (i := 7) (v := .int .i64 si) 103 rfl rfl (by kernel_rfl) (by kernel_rfl) (by kernel_rfl) (Or.inr (by decide)) (fun _ _ _ h => h) (Or.inl ⟨by rfl, fun w hSw => by go_simp⟩) HS0 ?_
          simp only [Act.put, List.setIfInBounds_toArray]
          try dsimp only [List.set_cons_zero, List.set_cons_succ]
          refine wpZ_take (i := 8) (v := .slice (some ⟨a0, o0, none⟩) U c0) 104 rfl rfl (by kernel_rfl) (by kernel_rfl) (by kernel_rfl) (Or.inr (by decide)) (fun _ _ _ h => h) (Or.inl ⟨by rfl, fun w hSw => by go_simp⟩) HS0 ?_
          simp only [Act.put, List.setIfInBounds_toArray]
          try dsimp only [List.set_cons_zero, List.set_cons_succ]
          refine wpZ_take (i := 9) (v := .int .i64 (j : Int)) 105 rfl rfl (by kernel_rfl) (by kernel_rfl) (by kernel_rfl) (Or.inr (by decide)) (fun _ _ _ h => h) (Or.inl ⟨by rfl, fun w hSw => by go_simp⟩) HS0 ?_
          simp only [Act.put, List.setIfInBounds_toArray]
          try dsimp only [List.set_cons_zero, List.set_cons_succ]
          refine wpZ_take (i := 10) (v := .pointer (some ⟨a0, o0 + j * 4, none⟩)) 106 rfl rfl (by kernel_rfl) (by kernel_rfl) (by kernel_rfl) (Or.inr (by decide)) (fun _ _ _ h => h) (Or.inl ⟨by rfl, fun w hSw => by go_simp⟩) HS0 ?_
          simp only [Act.put, List.setIfInBounds_toArray]
          try dsimp only [List.set_cons_zero, List.set_cons_succ]
          refine wpZ_take (i := 11) (v := .agg #[.int .u64 ((limb 0 (p0) : Nat) : Int), .int .u64 ((limb 1 (p0) : Nat) : Int), .int .u64 ((limb 2 (p0) : Nat) : Int), .int .u64 ((limb 3 (p0) : Nat) : Int)]) 107 rfl rfl (by kernel_rfl) (by kernel_rfl) (by kernel_rfl) (Or.inr (by decide)) (fun _ _ _ h => h) (Or.inl ⟨by rfl, fun w hSw => by (obtain ⟨q0, q1, q2, q3⟩ : w.cell? ⟨a0, o0 + j * 4, none⟩ = _ ∧ w.cell? ⟨a0, o0 + j * 4 + 1, none⟩ = _ ∧ w.cell? ⟨a0, o0 + j * 4 + 2, none⟩ = _ ∧ w.cell? ⟨a0, o0 + j * 4 + 3, none⟩ = _ := hSw.2.1; clear hSw; go_simp)⟩) HS0 ?_
          simp only [Act.put, List.setIfInBounds_toArray]
          try dsimp only [List.set_cons_zero, List.set_cons_succ]
          refine wpZ_take (i := 12) (v := .agg #[.int .u64 ((limb 0 (be) : Nat) : Int), .int .u64 ((limb 1 (be) : Nat) : Int), .int .u64 ((limb 2 (be) : Nat) : Int), .int .u64 ((limb 3 (be) : Nat) : Int)]) 108 rfl rfl (by kernel_rfl) (by kernel_rfl) (by kernel_rfl) (Or.inr (by decide)) (fun _ _ _ h => h) (Or.inl ⟨by rfl, fun w hSw => by (obtain ⟨q0, q1, q2, q3⟩ : w.cell? ⟨N15, 0, none⟩ = _ ∧ w.cell? ⟨N15, 1, none⟩ = _ ∧ w.cell? ⟨N15, 2, none⟩ = _ ∧ w.cell? ⟨N15, 3, none⟩ = _ := hSw.2.2.1; clear hSw; go_simp)⟩) HS0 ?_
          simp only [Act.put, List.setIfInBounds_toArray]
          try dsimp only [List.set_cons_zero, List.set_cons_succ]
          refine wpZ_take (i := 13) (v := .slice (some ⟨a1, o1, none⟩) U c1) 109 rfl rfl (by kernel_rfl) (by kernel_rfl) (by kernel_rfl) (Or.inr (by decide)) (fun _ _ _ h => h) (Or.inl ⟨by rfl, fun w hSw => by go_simp⟩) HS0 ?_
          simp only [Act.put, List.setIfInBounds_toArray]
          try dsimp only [List.set_cons_zero, List.set_cons_succ]
          refine wpZ_take (i := 14) (v := .int .i64 (j : Int)) 110 rfl rfl (by kernel_rfl) (by kernel_rfl) (by kernel_rfl) (Or.inr (by decide)) (fun _ _ _ h => h) (Or.inl ⟨by rfl, fun w hSw => by go_simp⟩) HS0 ?_
          simp only [Act.put, List.setIfInBounds_toArray]
          try dsimp only [List.set_cons_zero, List.set_cons_succ]
          refine wpZ_take (i := 15) (v := .pointer (some ⟨a1, o1 + j * 4, none⟩)) 111 rfl rfl (by kernel_rfl) (by kernel_rfl) (by kernel_rfl) (Or.inr (by decide)) (fun _ _ _ h => h) (Or.inl ⟨by rfl, fun w hSw => by go_simp⟩) HS0 ?_
          simp only [Act.put, List.setIfInBounds_toArray]
          try dsimp only [List.set_cons_zero, List.set_cons_succ]
          refine wpZ_take (i := 16) (v := .agg #[.int .u64 ((limb 0 (p1) : Nat) : Int), .int .u64 ((limb 1 (p1) : Nat) : Int), .int .u64 ((limb 2 (p1) : Nat) : Int), .int .u64 ((limb 3 (p1) : Nat) : Int)]) 112 rfl rfl (by kernel_rfl) (by kernel_rfl) (by kernel_rfl) (Or.inr (by decide)) (fun _ _ _ h => h) (Or.inl ⟨by rfl, fun w hSw => by (obtain ⟨q0, q1, q2, q3⟩ : w.cell? ⟨a1, o1 + j * 4, none⟩ = _ ∧ w.cell? ⟨a1, o1 + j * 4 + 1, none⟩ = _ ∧ w.cell? ⟨a1, o1 + j * 4 + 2, none⟩ = _ ∧ w.cell? ⟨a1, o1 + j * 4 + 3, none⟩ = _ := hSw.2.2.2.1; clear hSw; go_simp)⟩) HS0 ?_
          simp only [Act.put, List.setIfInBounds_toArray]
          try dsimp only [List.set_cons_zero, List.set_cons_succ]
          refine wpZ_take (i := 17) (v := .agg #[.int .u64 ((limb 0 (ga) : Nat) : Int), .int .u64 ((limb 1 (ga) : Nat) : Int), .int .u64 ((limb 2 (ga) : Nat) : Int), .int .u64 ((limb 3 (ga) : Nat) : Int)]) 113 rfl rfl (by kernel_rfl) (by kernel_rfl) (by kernel_rfl) (Or.inr (by decide)) (fun _ _ _ h => h) (Or.inl ⟨by rfl, fun w hSw => by (obtain ⟨q0, q1, q2, q3⟩ : w.cell? ⟨N16, 0, none⟩ = _ ∧ w.cell? ⟨N16, 1, none⟩ = _ ∧ w.cell? ⟨N16, 2, none⟩ = _ ∧ w.cell? ⟨N16, 3, none⟩ = _ := hSw.2.2.2.2.1; clear hSw; go_simp)⟩) HS0 ?_
          simp only [Act.put, List.setIfInBounds_toArray]
          try dsimp only [List.set_cons_zero, List.set_cons_succ]
          refine wpZ_take (i := 19) (v := .agg #[.int .u64 ((limb 0 (y) : Nat) : Int), .int .u64 ((limb 1 (y) : Nat) : Int), .int .u64 ((limb 2 (y) : Nat) : Int), .int .u64 ((limb 3 (y) : Nat) : Int)]) 115 rfl rfl (by kernel_rfl) (by kernel_rfl) (by kernel_rfl) (Or.inr (by decide)) (fun _ _ _ h => h) (Or.inl ⟨by rfl, fun w hSw => by (obtain ⟨q0, q1, q2, q3⟩ : w.cell? ⟨N26, 0, none⟩ = _ ∧ w.cell? ⟨N26, 1, none⟩ = _ ∧ w.cell? ⟨N26, 2, none⟩ = _ ∧ w.cell? ⟨N26, 3, none⟩ = _ := hSw.2.2.2.2.2; clear hSw; go_simp)⟩) HS0 ?_
          simp only [Act.put, List.setIfInBounds_toArray]
          try dsimp only [List.set_cons_zero, List.set_cons_succ]
          refine wpZ_one (i := 18) (by kernel_rfl) rfl (fun K hK => ?_)
          go_simp
          refine (HTA.out wD).mono ?_
          rintro e wE1 ⟨rfl, hbx1⟩
          have lowwE1 := bStep lowD hbx1
          have SwE1 : Rd4 wE1 zb (j * 4) p ∧ Rd4 wE1 a0 (o0 + j * 4) p0 ∧ Rd4 wE1 N15 0 be ∧ Rd4 wE1 a1 (o1 + j * 4) p1 ∧ Rd4 wE1 N16 0 ga ∧ Rd4 wE1 N26 0 y := ⟨K0.below lowwE1 kl0, K1.below lowwE1 kl1, K2.below lowwE1 kl2, K3.below lowwE1 kl3, K4.below lowwE1 kl4, K5.below lowwE1 kl5⟩
          go_wp2_with fail
          refine hK.out _ _ (fun _ => SwE1) ?_
          clear hK K hbx1
          refine wpZ_one (i := 20) (by kernel_rfl) rfl (fun K hK => ?_)
          go_simp
          refine (HBV.out wE1).mono ?_
          rintro e wE2 ⟨rfl, hbx2⟩
          have lowwE2 := bStep lowwE1 hbx2
          have SwE2 : Rd4 wE2 zb (j * 4) p ∧ Rd4 wE2 a0 (o0 + j * 4) p0 ∧ Rd4 wE2 N15 0 be ∧ Rd4 wE2 a1 (o1 + j * 4) p1 ∧ Rd4 wE2 N16 0 ga ∧ Rd4 wE2 N26 0 y := ⟨K0.below lowwE2 kl0, K1.below lowwE2 kl1, K2.below lowwE2 kl2, K3.below lowwE2 kl3, K4.below lowwE2 kl4, K5.below lowwE2 kl5⟩
          go_wp2_with fail
          refine hK.out _ _ (fun _ => SwE2) ?_
          clear hK K hbx2
          refine wpZ_one (i := 21) (by kernel_rfl) rfl (fun K hK => ?_)
          go_simp
          refine (HMJ.out wE2).mono ?_
          rintro e wE3 ⟨rfl, hbx3⟩
          have lowwE3 := bStep lowwE2 hbx3
          have SwE3 : Rd4 wE3 zb (j * 4) p ∧ Rd4 wE3 a0 (o0 + j * 4) p0 ∧ Rd4 wE3 N15 0 be ∧ Rd4 wE3 a1 (o1 + j * 4) p1 ∧ Rd4 wE3 N16 0 ga ∧ Rd4 wE3 N26 0 y := ⟨K0.below lowwE3 kl0, K1.below lowwE3 kl1, K2.below lowwE3 kl2, K3.below lowwE3 kl3, K4.below lowwE3 kl4, K5.below lowwE3 kl5⟩
          go_wp2_with fail
          refine hK.out _ _ (fun _ => SwE3) ?_
          clear hK K hbx3
          refine wpZ_one (i := 22) (by kernel_rfl) rfl (fun K hK => ?_)
          go_simp
          have ownF := own5.below lowwE3
          obtain ⟨wG, hwG⟩ : ∃ z : World, z = wE3.alloc (.cells #[.int .u64 ((limb 0 z1 : Nat) : Int), .int .u64 ((limb 1 z1 : Nat) : Int), .int .u64 ((limb 2 z1 : Nat) : Int), .int .u64 ((limb 3 z1 : Nat) : Int)] 25) := ⟨_, rfl⟩
          obtain ⟨NF, eF⟩ : ∃ z, z = wE3.heap.size := ⟨_, rfl⟩
          have bF : Blk wG 25 NF (fun i => limb i z1) := by rw [hwG]; exact Blk.newAt _ _ _ (fun i => limb i z1) eF
          have hbG : Below wE3.heap.size wE3 wG := by rw [hwG]; exact bAlloc (Below.refl _ _) _
          have lowG := bStep lowwE3 hbG
          have ownG := ownF.below hbG
          have SG : Rd4 wG zb (j * 4) p ∧ Rd4 wG a0 (o0 + j * 4) p0 ∧ Rd4 wG N15 0 be ∧ Rd4 wG a1 (o1 + j * 4) p1 ∧ Rd4 wG N16 0 ga ∧ Rd4 wG N26 0 y := ⟨K0.below lowG kl0, K1.below lowG kl1, K2.below lowG kl2, K3.below lowG kl3, K4.below lowG kl4, K5.below lowG kl5⟩
          rw [← hwG, ← eF]
          refine hK.out _ _ (fun _ => SG) ?_
          clear hK K hwG eF hbG ownF
          have cF := bF.cell
          have lBG : BZ ≤ wG.heap.size := Nat.le_trans lBa lowG.size
          have lG0 : zb < wG.heap.size := Nat.lt_of_lt_of_le kl0 lowG.size
          have lG1 : a0 < wG.heap.size := Nat.lt_of_lt_of_le kl1 lowG.size
          have lG2 : N15 < wG.heap.size := Nat.lt_of_lt_of_le kl2 lowG.size
          have lG3 : a1 < wG.heap.size := Nat.lt_of_lt_of_le kl3 lowG.size
          have lG4 : N16 < wG.heap.size := Nat.lt_of_lt_of_le kl4 lowG.size
          have lG5 : N26 < wG.heap.size := Nat.lt_of_lt_of_le kl5 lowG.size
          refine wpZ_one (i := 23) (by kernel_rfl) rfl (fun K hK => ?_)
          rw [if_pos (show Region.wanted _ _ = true from rfl)]
          refine wp_append_keep2 wG _ _ 22 rfl BZ 25 i0 (.agg #[.int .u64 0, .int .u64 0, .int .u64 0, .int .u64 0]) 4 32 Tryd.underlying22 HI.out HZ.out.1 HZ.out.2.1 HZ.out.2.2 rfl (by decide) _ L.length (els (fun i => L.getD i 0) L.length) rfl ownG ⟨NF, 0, none⟩ 1 1 [.int .u64 ((limb 0 z1 : Nat) : Int), .int .u64 ((limb 1 z1 : Nat) : Int), .int .u64 ((limb 2 z1 : Nat) : Int), .int .u64 ((limb 3 z1 : Nat) : Int)] rfl rfl ?c1 ?c2 ?c3 ?c4 lBG ?_
          case c1 =>
            intro q u hu
            have hadd : (⟨NF, 0, none⟩ : Addr).add q = ⟨NF, q, none⟩ := by unfold Addr.add; split <;> simp_all
            rw [hadd]
            match q, hu with
            | 0, hu => simp at hu; subst hu; exact cF 0 (by decide)
            | 1, hu => simp at hu; subst hu; exact cF 1 (by decide)
            | 2, hu => simp at hu; subst hu; exact cF 2 (by decide)
            | 3, hu => simp at hu; subst hu; exact cF 3 (by decide)
            | q + 4, hu => simp at hu
          case c2 => first | exact ⟨rfl, rfl, rfl, rfl⟩ | (intro u hu; simp at hu; rcases hu with rfl | rfl | rfl | rfl <;> rfl)
          case c3 => unfold maxLen; omega
          case c4 => omega
          intro v6 wH own6' hgr6 hkp
          have own6 := OwnL.push own6'
          have ek := fun l (hl : l < 4) => els_get (fun i => L.getD i 0) L.length j l hjL hl
          rw [HL.out.2.1] at ek
          have S6 : Rd4 wH zb (j * 4) p ∧ Rd4 wH a0 (o0 + j * 4) p0 ∧ Rd4 wH N15 0 be ∧ Rd4 wH a1 (o1 + j * 4) p1 ∧ Rd4 wH N16 0 ga ∧ Rd4 wH N26 0 y := ⟨⟨(hkp zb rfl).1 _ _ (ek 0 (by decide)), (hkp zb rfl).1 _ _ (ek 1 (by decide)), (hkp zb rfl).1 _ _ (ek 2 (by decide)), (hkp zb rfl).1 _ _ (ek 3 (by decide))⟩, SG.2.1.same (hgr6.block a0 lG1 (fun h => (by omega : zb ≠ a0) (Option.some.inj h).symm)), SG.2.2.1.same (hgr6.block N15 lG2 (fun h => (by omega : zb ≠ N15) (Option.some.inj h).symm)), SG.2.2.2.1.same (hgr6.block a1 lG3 (fun h => (by omega : zb ≠ a1) (Option.some.inj h).symm)), SG.2.2.2.2.1.same (hgr6.block N16 lG4 (fun h => (by omega : zb ≠ N16) (Option.some.inj h).symm)), SG.2.2.2.2.2.same (hgr6.block N26 lG5 (fun h => (by omega : zb ≠ N26) (Option.some.inj h).symm))⟩
          have hbGH : Below BZ wG wH := (Below.refl BZ wG).grown hgr6 lBG (fun q hq => own_block_geE ownG hq)
          have hbG2 : Below BZ w2 wG := hba.trans (lowG.mono lBa)
          have hbH : Below BZ w2 wH := hbG2.trans hbGH
          have lBH : BZ ≤ wH.heap.size := Nat.le_trans lBG hbGH.size
          have b24G := b24a.belowAll lowG
          have l24G := b24G.lt
          have b24H : Blk wH 25 N24 (fun _ => 0) := by unfold Blk at b24G ⊢; rw [hgr6.block N24 l24G (fun h => nz24 (Option.some.inj h).symm)]; exact b24G
          have HNEH : Hid (∀ g, v6.ownBlock = some g → g ≠ N24) := fun g hg => by
            rcases (hkp zb rfl).2 g hg with h | h
            · rw [h]; exact nz24
            · omega
          have HNBH : Hid (∀ i, i < j + 1 → B i ≠ 0) := fun i hi => by
            by_cases h : i = j
            · rw [h]; exact HY0.out
            · exact HNB.out i (by omega)
          have HOH : Hid (OwnL wH BZ v6 (zL Z (j + 1))) := by show OwnL _ _ _ _; rw [HL.out.2.2]; exact own6
          refine hK.out _ _ (fun _ => S6) ?_
          clear hK K own6' hgr6 hkp ek own6 ownG SG hbGH own5 hb hSa b24a b24G hba hbG2
          refine wpZ_take (i := 24) (v := v6) 23 rfl rfl (by kernel_rfl) (by kernel_rfl) (by kernel_rfl) (Or.inr (by decide)) (fun _ _ _ h => h) (Or.inl ⟨by rfl, fun w hSw => by go_simp⟩) S6 ?_
          simp only [Act.put, List.setIfInBounds_toArray]
          try dsimp only [List.set_cons_zero, List.set_cons_succ]
          refine wpZ_done (by kernel_rfl) ?_ _
          go_wp2
          go_roundw
          case measure => simp [intOf]; omega
          case rel => exact ⟨j + 1, by go_num, by omega, HOH.out, HNBH, hbH, b24H, HNEH, lBH⟩
      · go_simp
        have hSK1' : Below wr.heap.size wr ((wr.alloc (.cells #[.int .u64 0, .int .u64 0, .int .u64 0, .int .u64 0] 25)).drew) := (bAlloc (Below.refl _ _) _).drew
        refine hK.out _ _ (fun _ => hSK1') ?_
        clear hK K
        obtain ⟨N26_1, hN26_1⟩ : ∃ N, N = wr.heap.size := ⟨_, rfl⟩
        obtain ⟨wK1, hwK1⟩ : ∃ x : World, x = (wr.alloc (.cells #[.int .u64 0, .int .u64 0, .int .u64 0, .int .u64 0] 25)).drew := ⟨_, rfl⟩
        have hSK1 : Below wr.heap.size wr wK1 := by rw [hwK1]; exact hSK1'
        have b26_1 : Blk wK1 25 N26_1 (fun _ => 0) := by rw [hwK1, hN26_1]; exact (Blk.new wr 25 (fun _ => 0)).drew
        have lN26_1 : wr.heap.size ≤ N26_1 := by rw [hN26_1]; exact (HS0.out).size
        rw [← hwK1, ← hN26_1]
        clear hwK1 hSK1' hN26_1
        refine wpZ_one (i := 11) (by kernel_rfl) rfl (fun K hK => ?_)
        go_simp
        refine (HTB.out wK1).mono ?_
        rintro e wK2 ⟨rfl, hbK2⟩
        have hSK2 : Below wr.heap.size wr wK2 := bStep (hSK1) hbK2
        go_wp2_with fail
        refine hK.out _ _ (fun _ => hSK2) ?_
        clear hK K
        have b26_2 := b26_1.belowAll hbK2
        refine wpZ_one (i := 13) (by kernel_rfl) rfl (fun K hK => ?_)
        have cS := b26_2.cell; have fS := b26_2.frozen
        go_simp
        refine hK.out _ _ (fun _ => bSet4 (hSK2) lN26_1 _ _ _ _) ?_
        clear hK K cS fS
        obtain ⟨wK3, hwK3⟩ : ∃ x : World, x = ((((wK2.setCell ⟨N26_1, 0, none⟩ (.int .u64 ((limb 0 y : Nat) : Int))).setCell ⟨N26_1, 1, none⟩ (.int .u64 ((limb 1 y : Nat) : Int))).setCell ⟨N26_1, 2, none⟩ (.int .u64 ((limb 2 y : Nat) : Int))).setCell ⟨N26_1, 3, none⟩ (.int .u64 ((limb 3 y : Nat) : Int))) := ⟨_, rfl⟩
        have hSK3 : Below wr.heap.size wr wK3 := by rw [hwK3]; exact bSet4 (hSK2) lN26_1 _ _ _ _
        have b26_3 : Blk wK3 25 N26_1 (fun i => limb i y) := by rw [hwK3]; exact b26_2.set4 (fun i => limb i y)
        rw [← hwK3]
        clear hwK3
        refine wpZ_done (by kernel_rfl) ?_ _
        obtain ⟨wa, hwa⟩ : ∃ z : World, z = wK3 := ⟨_, rfl⟩
        obtain ⟨N26, e26⟩ : ∃ z, z = N26_1 := ⟨_, rfl⟩
        have hSa : Below wr.heap.size wr wa := by rw [hwa]; exact hSK3
        have b26 : Blk wa 25 N26 (fun i => limb i y) := by rw [hwa, e26]; exact b26_3
        have l26 : wr.heap.size ≤ N26 := by rw [e26]; exact lN26_1
        rw [← hwa]
        try rw [← e26]
        clear hwa e26
        have own5 := own.below (hSa)
        have K0 := RZ.below hSa lab
        have K1 := RF0.below hSa lf0
        have K3 := RF1.below hSa lf1
        have K2 : Rd4 wa N15 0 be := by have c := (b15r.belowAll hSa).cell; exact ⟨c 0 (by decide), c 1 (by decide), c 2 (by decide), c 3 (by decide)⟩
        have K4 : Rd4 wa N16 0 ga := by have c := (b16r.belowAll hSa).cell; exact ⟨c 0 (by decide), c 1 (by decide), c 2 (by decide), c 3 (by decide)⟩
        have K5 : Rd4 wa N26 0 y := by have c := b26.cell; exact ⟨c 0 (by decide), c 1 (by decide), c 2 (by decide), c 3 (by decide)⟩
        have b24a := b24r.belowAll hSa
        have l24 := b24a.lt
        have lba := hSa.size
        have hba : Below BZ w2 wa := hb.trans (hSa.mono lBr)
        have lBa : BZ ≤ wa.heap.size := Nat.le_trans lBr lba
        have kl0 : zb < wa.heap.size := Nat.lt_of_lt_of_le lab lba
        have kl1 : a0 < wa.heap.size := Nat.lt_of_lt_of_le lf0 lba
        have kl3 : a1 < wa.heap.size := Nat.lt_of_lt_of_le lf1 lba
        have x15 := H15.out.2; have x16 := H16.out.2
        have kl2 : N15 < wa.heap.size := Nat.lt_of_lt_of_le x15 lBa
        have kl4 : N16 < wa.heap.size := Nat.lt_of_lt_of_le x16 lBa
        have kl5 : N26 < wa.heap.size := b26.lt
        have ne26 : N26 ≠ zb := by omega
        clear RZ RF0 RF1 RF2 RF3 HX2 HX3 own b15r b16r HTB lf2 lf3
        by_cases hy0 : y = 0
        · have hq : ∀ w, (binOp .eql 25 (.agg #[.int .u64 ((limb 0 (y) : Nat) : Int), .int .u64 ((limb 1 (y) : Nat) : Int), .int .u64 ((limb 2 (y) : Nat) : Int), .int .u64 ((limb 3 (y) : Nat) : Int)]) (.agg #[.int .u64 ((limb 0 (0) : Nat) : Int), .int .u64 ((limb 1 (0) : Nat) : Int), .int .u64 ((limb 2 (0) : Nat) : Int), .int .u64 ((limb 3 (0) : Nat) : Int)])).run Tryd.prog w = .ok (.bool true) w := fun w => by have h := eqlE2 y 0 hyM M_pos w; rw [decide_eq_true hy0] at h; exact h
          have HY0 : Hid (B j = 0) := by rw [← HYB.out]; exact hy0
          clear hy0
          rw [zE] at hq
          have c26 := b26.cell; have c24 := b24a.cell
          have b17 := H17.out.1.below hba H17.out.2; have b18 := H18.out.1.below hba H18.out.2
          have hbwa : Below w.heap.size w wa := HB2.out.trans (hba.mono HLW.out.1)
          clear K0 K1 K2 K3 K4 K5 hba hSa b26 b24a own5 HTA HBJ HMJ hb
          have q0 := b17.at (o := 0) rfl; have q1 := b17.at (o := 1) rfl
          have f0 := b18.frozen.1; have f1 := b18.frozen.2
          obtain ⟨p0v, p0⟩ : ∃ v, wa.cell? ⟨N18, 0, none⟩ = some v := ⟨_, b18.at (o := 0) rfl⟩
          obtain ⟨p1v, p1⟩ : ∃ v, wa.cell? ⟨N18, 1, none⟩ = some v := ⟨_, b18.at (o := 1) rfl⟩
          obtain ⟨w9, hw9, e9, hk9⟩ := b18.put2 (.slice oc m cm) (.int .i64 0)
          have hbe := bKept hbwa l18 hk9
          have r0 := e9.at (o := 0) rfl; have r1 := e9.at (o := 1) rfl
          clear hk9 b18
          go_wp2
          refine bodyPost_ret (v := .tuple #[.agg #[.slice oc m cm, .int .i64 0], .slice none 0 0, .int .i64 100]) (by simp [results, Tryd.results8, go_sem, r0, r1]) rfl ⟨Or.inl ⟨⟨j, hlt, HY0.out⟩, rfl⟩, hbe⟩
        · have hq : ∀ w, (binOp .eql 25 (.agg #[.int .u64 ((limb 0 (y) : Nat) : Int), .int .u64 ((limb 1 (y) : Nat) : Int), .int .u64 ((limb 2 (y) : Nat) : Int), .int .u64 ((limb 3 (y) : Nat) : Int)]) (.agg #[.int .u64 ((limb 0 (0) : Nat) : Int), .int .u64 ((limb 1 (0) : Nat) : Int), .int .u64 ((limb 2 (0) : Nat) : Int), .int .u64 ((limb 3 (0) : Nat) : Int)])).run Tryd.prog w = .ok (.bool false) w := fun w => by have h := eqlE2 y 0 hyM M_pos w; rw [decide_eq_false hy0] at h; exact h
          have HY0 : Hid (B j ≠ 0) := by rw [← HYB.out]; exact hy0
          have HBV : Hid (∀ w, Calls Tryd.prog 21 #[.int .i64 si, .agg #[.int .u64 ((limb 0 (x) : Nat) : Int), .int .u64 ((limb 1 (x) : Nat) : Int), .int .u64 ((limb 2 (x) : Nat) : Int), .int .u64 ((limb 3 (x) : Nat) : Int)], .agg #[.int .u64 ((limb 0 (y) : Nat) : Int), .int .u64 ((limb 1 (y) : Nat) : Int), .int .u64 ((limb 2 (y) : Nat) : Int), .int .u64 ((limb 3 (y) : Nat) : Int)]] w fun e w' => e = .returned (.agg #[.int .u64 ((limb 0 (v) : Nat) : Int), .int .u64 ((limb 1 (v) : Nat) : Int), .int .u64 ((limb 2 (v) : Nat) : Int), .int .u64 ((limb 3 (v) : Nat) : Int)]) ∧ Below w.heap.size w w') := HBJ.out hy0
          clear hy0 HBJ
          rw [zE] at hq
          have c26 := b26.cell; have c24 := b24a.cell
          go_upto_region 17 with fail
          clear hq c26 c24 b26
          refine wp_region_Z (fun w' => Rd4 w' zb (j * 4) p ∧ Rd4 w' a0 (o0 + j * 4) p0 ∧ Rd4 w' N15 0 be ∧ Rd4 w' a1 (o1 + j * 4) p1 ∧ Rd4 w' N16 0 ga ∧ Rd4 w' N26 0 y) 99 (by kernel_rfl) ?_
          obtain ⟨wD, hD⟩ : ∃ z : World, z = wa.drew := ⟨_, rfl⟩
          rw [← hD]
          have lowD : Below wa.heap.size wa wD := by rw [hD]; exact (Below.refl _ _).drew
          clear hD
          have HS0 : Rd4 wD zb (j * 4) p ∧ Rd4 wD a0 (o0 + j * 4) p0 ∧ Rd4 wD N15 0 be ∧ Rd4 wD a1 (o1 + j * 4) p1 ∧ Rd4 wD N16 0 ga ∧ Rd4 wD N26 0 y := ⟨K0.below lowD kl0, K1.below lowD kl1, K2.below lowD kl2, K3.below lowD kl3, K4.below lowD kl4, K5.below lowD kl5⟩
          refine wpZ_take (i := 0) (v := .slice (some ⟨zb, 0, none⟩) L.length cap) 96 rfl rfl (by kernel_rfl) (by kernel_rfl) (by kernel_rfl) (Or.inr (by decide)) (fun _ _ _ h => h) (Or.inl ⟨by rfl, fun w hSw => by go_simp⟩) HS0 ?_
          simp only [Act.put, List.setIfInBounds_toArray]
          try dsimp only [List.set_cons_zero, List.set_cons_succ]
          refine wpZ_take (i := 1) (v := .int .i64 si) 97 rfl rfl (by kernel_rfl) (by kernel_rfl) (by kernel_rfl) (Or.inr (by decide)) (fun _ _ _ h => h) (Or.inl ⟨by rfl, fun w hSw => by go_simp⟩) HS0 ?_
          simp only [Act.put, List.setIfInBounds_toArray]
          try dsimp only [List.set_cons_zero, List.set_cons_succ]
          refine wpZ_take (i := 2) (v := .slice (some ⟨zb, 0, none⟩) L.length cap) 98 rfl rfl (by kernel_rfl) (by kernel_rfl) (by kernel_rfl) (Or.inr (by decide)) (fun _ _ _ h => h) (Or.inl ⟨by rfl, fun w hSw => by go_simp⟩) HS0 ?_
          simp only [Act.put, List.setIfInBounds_toArray]
          try dsimp only [List.set_cons_zero, List.set_cons_succ]
          refine wpZ_take (i := 3) (v := .int .i64 (j : Int)) 99 rfl rfl (by kernel_rfl) (by kernel_rfl) (by kernel_rfl) (Or.inr (by decide)) (fun _ _ _ h => h) (Or.inl ⟨by rfl, fun w hSw => by go_simp⟩) HS0 ?_
          simp only [Act.put, List.setIfInBounds_toArray]
          try dsimp only [List.set_cons_zero, List.set_cons_succ]
          refine wpZ_take (i := 4) (v := .pointer (some ⟨zb, j * 4, none⟩)) 100 rfl rfl (by kernel_rfl) (by kernel_rfl) (by kernel_rfl) (Or.inr (by decide)) (fun _ _ _ h => h) (Or.inl ⟨by rfl, fun w hSw => by go_simp⟩) HS0 ?_
          simp only [Act.put, List.setIfInBounds_toArray]
          try dsimp only [List.set_cons_zero, List.set_cons_succ]
          refine wpZ_take (i := 5) (v := .agg #[.int .u64 ((limb 0 (p) : Nat) : Int), .int .u64 ((limb 1 (p) : Nat) : Int), .int .u64 ((limb 2 (p) : Nat) : Int), .int .u64 ((limb 3 (p) : Nat) : Int)]) 101 rfl rfl (by kernel_rfl) (by kernel_rfl) (by kernel_rfl) (Or.inr (by decide)) (fun _ _ _ h => h) (Or.inl ⟨by rfl, fun w hSw => by (obtain ⟨q0, q1, q2, q3⟩ : w.cell? ⟨zb, j * 4, none⟩ = _ ∧ w.cell? ⟨zb, j * 4 + 1, none⟩ = _ ∧ w.cell? ⟨zb, j * 4 + 2, none⟩ = _ ∧ w.cell? ⟨zb, j * 4 + 3, none⟩ = _ := hSw.1; clear hSw; go_simp)⟩) HS0 ?_
          simp only [Act.put, List.setIfInBounds_toArray]
          try dsimp only [List.set_cons_zero, List.set_cons_succ]
          refine wpZ_take (i := 6) (v := .int .i64 si) 102 rfl rfl (by kernel_rfl) (by kernel_rfl) (by kernel_rfl) (Or.inr (by decide)) (fun _ _ _ h => h) (Or.inl ⟨by rfl, fun w hSw => by go_simp⟩) HS0 ?_
          simp only [Act.put, List.setIfInBounds_toArray]
          try dsimp only [List.set_cons_zero, List.set_cons_succ]
          refine wpZ_take (i := 7) (v := .int .i64 si) 103 rfl rfl (by kernel_rfl) (by kernel_rfl) (by kernel_rfl) (Or.inr (by decide)) (fun _ _ _ h => h) (Or.inl ⟨by rfl, fun w hSw => by go_simp⟩) HS0 ?_
          simp only [Act.put, List.setIfInBounds_toArray]
          try dsimp only [List.set_cons_zero, List.set_cons_succ]
          refine wpZ_take (i := 8) (v := .slice (some ⟨a0, o0, none⟩) U c0) 104 rfl rfl (by kernel_rfl) (by kernel_rfl) (by kernel_rfl) (Or.inr (by decide)) (fun _ _ _ h => h) (Or.inl ⟨by rfl, fun w hSw => by go_simp⟩) HS0 ?_
          simp only [Act.put, List.setIfInBounds_toArray]
          try dsimp only [List.set_cons_zero, List.set_cons_succ]
          refine wpZ_take (i := 9) (v := .int .i64 (j : Int)) 105 rfl rfl (by kernel_rfl) (by kernel_rfl) (by kernel_rfl) (Or.inr (by decide)) (fun _ _ _ h => h) (Or.inl ⟨by rfl, fun w hSw => by go_simp⟩) HS0 ?_
          simp only [Act.put, List.setIfInBounds_toArray]
          try dsimp only [List.set_cons_zero, List.set_cons_succ]
          refine wpZ_take (i := 10) (v := .pointer (some ⟨a0, o0 + j * 4, none⟩)) 106 rfl rfl (by kernel_rfl) (by kernel_rfl) (by kernel_rfl) (Or.inr (by decide)) (fun _ _ _ h => h) (Or.inl ⟨by rfl, fun w hSw => by go_simp⟩) HS0 ?_
          simp only [Act.put, List.setIfInBounds_toArray]
          try dsimp only [List.set_cons_zero, List.set_cons_succ]
          refine wpZ_take (i := 11) (v := .agg #[.int .u64 ((limb 0 (p0) : Nat) : Int), .int .u64 ((limb 1 (p0) : Nat) : Int), .int .u64 ((limb 2 (p0) : Nat) : Int), .int .u64 ((limb 3 (p0) : Nat) : Int)]) 107 rfl rfl (by kernel_rfl) (by kernel_rfl) (by kernel_rfl) (Or.inr (by decide)) (fun _ _ _ h => h) (Or.inl ⟨by rfl, fun w hSw => by (obtain ⟨q0, q1, q2, q3⟩ : w.cell? ⟨a0, o0 + j * 4, none⟩ = _ ∧ w.cell? ⟨a0, o0 + j * 4 + 1, none⟩ = _ ∧ w.cell? ⟨a0, o0 + j * 4 + 2, none⟩ = _ ∧ w.cell? ⟨a0, o0 + j * 4 + 3, none⟩ = _ := hSw.2.1; clear hSw; go_simp)⟩) HS0 ?_
          simp only [Act.put, List.setIfInBounds_toArray]
          try dsimp only [List.set_cons_zero, List.set_cons_succ]
          refine wpZ_take (i := 12) (v := .agg #[.int .u64 ((limb 0 (be) : Nat) : Int), .int .u64 ((limb 1 (be) : Nat) : Int), .int .u64 ((limb 2 (be) : Nat) : Int), .int .u64 ((limb 3 (be) : Nat) : Int)]) 108 rfl rfl (by kernel_rfl) (by kernel_rfl) (by kernel_rfl) (Or.inr (by decide)) (fun _ _ _ h => h) (Or.inl ⟨by rfl, fun w hSw => by (obtain ⟨q0, q1, q2, q3⟩ : w.cell? ⟨N15, 0, none⟩ = _ ∧ w.cell? ⟨N15, 1, none⟩ = _ ∧ w.cell? ⟨N15, 2, none⟩ = _ ∧ w.cell? ⟨N15, 3, none⟩ = _ := hSw.2.2.1; clear hSw; go_simp)⟩) HS0 ?_
          simp only [Act.put, List.setIfInBounds_toArray]
          try dsimp only [List.set_cons_zero, List.set_cons_succ]
          refine wpZ_take (i := 13) (v := .slice (some ⟨a1, o1, none⟩) U c1) 109 rfl rfl (by kernel_rfl) (by kernel_rfl) (by kernel_rfl) (Or.inr (by decide)) (fun _ _ _ h => h) (Or.inl ⟨by rfl, fun w hSw => by go_simp⟩) HS0 ?_
          simp only [Act.put, List.setIfInBounds_toArray]
          try dsimp only [List.set_cons_zero, List.set_cons_succ]
          refine wpZ_take (i := 14) (v := .int .i64 (j : Int)) 110 rfl rfl (by kernel_rfl) (by kernel_rfl) (by kernel_rfl) (Or.inr (by decide)) (fun _ _ _ h => h) (Or.inl ⟨by rfl, fun w hSw => by go_simp⟩) HS0 ?_
          simp only [Act.put, List.setIfInBounds_toArray]
          try dsimp only [List.set_cons_zero, List.set_cons_succ]
          refine wpZ_take (i := 15) (v := .pointer (some ⟨a1, o1 + j * 4, none⟩)) 111 rfl rfl (by kernel_rfl) (by kernel_rfl) (by kernel_rfl) (Or.inr (by decide)) (fun _ _ _ h => h) (Or.inl ⟨by rfl, fun w hSw => by go_simp⟩) HS0 ?_
          simp only [Act.put, List.setIfInBounds_toArray]
          try dsimp only [List.set_cons_zero, List.set_cons_succ]
          refine wpZ_take (i := 16) (v := .agg #[.int .u64 ((limb 0 (p1) : Nat) : Int), .int .u64 ((limb 1 (p1) : Nat) : Int), .int .u64 ((limb 2 (p1) : Nat) : Int), .int .u64 ((limb 3 (p1) : Nat) : Int)]) 112 rfl rfl (by kernel_rfl) (by kernel_rfl) (by kernel_rfl) (Or.inr (by decide)) (fun _ _ _ h => h) (Or.inl ⟨by rfl, fun w hSw => by (obtain ⟨q0, q1, q2, q3⟩ : w.cell? ⟨a1, o1 + j * 4, none⟩ = _ ∧ w.cell? ⟨a1, o1 + j * 4 + 1, none⟩ = _ ∧ w.cell? ⟨a1, o1 + j * 4 + 2, none⟩ = _ ∧ w.cell? ⟨a1, o1 + j * 4 + 3, none⟩ = _ := hSw.2.2.2.1; clear hSw; go_simp)⟩) HS0 ?_
          simp only [Act.put, List.setIfInBounds_toArray]
          try dsimp only [List.set_cons_zero, List.set_cons_succ]
          refine wpZ_take (i := 17) (v := .agg #[.int .u64 ((limb 0 (ga) : Nat) : Int), .int .u64 ((limb 1 (ga) : Nat) : Int), .int .u64 ((limb 2 (ga) : Nat) : Int), .int .u64 ((limb 3 (ga) : Nat) : Int)]) 113 rfl rfl (by kernel_rfl) (by kernel_rfl) (by kernel_rfl) (Or.inr (by decide)) (fun _ _ _ h => h) (Or.inl ⟨by rfl, fun w hSw => by (obtain ⟨q0, q1, q2, q3⟩ : w.cell? ⟨N16, 0, none⟩ = _ ∧ w.cell? ⟨N16, 1, none⟩ = _ ∧ w.cell? ⟨N16, 2, none⟩ = _ ∧ w.cell? ⟨N16, 3, none⟩ = _ := hSw.2.2.2.2.1; clear hSw; go_simp)⟩) HS0 ?_
          simp only [Act.put, List.setIfInBounds_toArray]
          try dsimp only [List.set_cons_zero, List.set_cons_succ]
          refine wpZ_take (i := 19) (v := .agg #[.int .u64 ((limb 0 (y) : Nat) : Int), .int .u64 ((limb 1 (y) : Nat) : Int), .int .u64 ((limb 2 (y) : Nat) : Int), .int .u64 ((limb 3 (y) : Nat) : Int)]) 115 rfl rfl (by kernel_rfl) (by kernel_rfl) (by kernel_rfl) (Or.inr (by decide)) (fun _ _ _ h => h) (Or.inl ⟨by rfl, fun w hSw => by (obtain ⟨q0, q1, q2, q3⟩ : w.cell? ⟨N26, 0, none⟩ = _ ∧ w.cell? ⟨N26, 1, none⟩ = _ ∧ w.cell? ⟨N26, 2, none⟩ = _ ∧ w.cell? ⟨N26, 3, none⟩ = _ := hSw.2.2.2.2.2; clear hSw; go_simp)⟩) HS0 ?_
          simp only [Act.put, List.setIfInBounds_toArray]
          try dsimp only [List.set_cons_zero, List.set_cons_succ]
          refine wpZ_one (i := 18) (by kernel_rfl) rfl (fun K hK => ?_)
          go_simp
          refine (HTA.out wD).mono ?_
          rintro e wE1 ⟨rfl, hbx1⟩
          have lowwE1 := bStep lowD hbx1
          have SwE1 : Rd4 wE1 zb (j * 4) p ∧ Rd4 wE1 a0 (o0 + j * 4) p0 ∧ Rd4 wE1 N15 0 be ∧ Rd4 wE1 a1 (o1 + j * 4) p1 ∧ Rd4 wE1 N16 0 ga ∧ Rd4 wE1 N26 0 y := ⟨K0.below lowwE1 kl0, K1.below lowwE1 kl1, K2.below lowwE1 kl2, K3.below lowwE1 kl3, K4.below lowwE1 kl4, K5.below lowwE1 kl5⟩
          go_wp2_with fail
          refine hK.out _ _ (fun _ => SwE1) ?_
          clear hK K hbx1
          refine wpZ_one (i := 20) (by kernel_rfl) rfl (fun K hK => ?_)
          go_simp
          refine (HBV.out wE1).mono ?_
          rintro e wE2 ⟨rfl, hbx2⟩
          have lowwE2 := bStep lowwE1 hbx2
          have SwE2 : Rd4 wE2 zb (j * 4) p ∧ Rd4 wE2 a0 (o0 + j * 4) p0 ∧ Rd4 wE2 N15 0 be ∧ Rd4 wE2 a1 (o1 + j * 4) p1 ∧ Rd4 wE2 N16 0 ga ∧ Rd4 wE2 N26 0 y := ⟨K0.below lowwE2 kl0, K1.below lowwE2 kl1, K2.below lowwE2 kl2, K3.below lowwE2 kl3, K4.below lowwE2 kl4, K5.below lowwE2 kl5⟩
          go_wp2_with fail
          refine hK.out _ _ (fun _ => SwE2) ?_
          clear hK K hbx2
          refine wpZ_one (i := 21) (by kernel_rfl) rfl (fun K hK => ?_)
          go_simp
          refine (HMJ.out wE2).mono ?_
          rintro e wE3 ⟨rfl, hbx3⟩
          have lowwE3 := bStep lowwE2 hbx3
          have SwE3 : Rd4 wE3 zb (j * 4) p ∧ Rd4 wE3 a0 (o0 + j * 4) p0 ∧ Rd4 wE3 N15 0 be ∧ Rd4 wE3 a1 (o1 + j * 4) p1 ∧ Rd4 wE3 N16 0 ga ∧ Rd4 wE3 N26 0 y := ⟨K0.below lowwE3 kl0, K1.below lowwE3 kl1, K2.below lowwE3 kl2, K3.below lowwE3 kl3, K4.below lowwE3 kl4, K5.below lowwE3 kl5⟩
          go_wp2_with fail
          refine hK.out _ _ (fun _ => SwE3) ?_
          clear hK K hbx3
          refine wpZ_one (i := 22) (by kernel_rfl) rfl (fun K hK => ?_)
          go_simp
          have ownF := own5.below lowwE3
          obtain ⟨wG, hwG⟩ : ∃ z : World, z = wE3.alloc (.cells #[.int .u64 ((limb 0 z1 : Nat) : Int), .int .u64 ((limb 1 z1 : Nat) : Int), .int .u64 ((limb 2 z1 : Nat) : Int), .int .u64 ((limb 3 z1 : Nat) : Int)] 25) := ⟨_, rfl⟩
          obtain ⟨NF, eF⟩ : ∃ z, z = wE3.heap.size := ⟨_, rfl⟩
          have bF : Blk wG 25 NF (fun i => limb i z1) := by rw [hwG]; exact Blk.newAt _ _ _ (fun i => limb i z1) eF
          have hbG : Below wE3.heap.size wE3 wG := by rw [hwG]; exact bAlloc (Below.refl _ _) _
          have lowG := bStep lowwE3 hbG
          have ownG := ownF.below hbG
          have SG : Rd4 wG zb (j * 4) p ∧ Rd4 wG a0 (o0 + j * 4) p0 ∧ Rd4 wG N15 0 be ∧ Rd4 wG a1 (o1 + j * 4) p1 ∧ Rd4 wG N16 0 ga ∧ Rd4 wG N26 0 y := ⟨K0.below lowG kl0, K1.below lowG kl1, K2.below lowG kl2, K3.below lowG kl3, K4.below lowG kl4, K5.below lowG kl5⟩
          rw [← hwG, ← eF]
          refine hK.out _ _ (fun _ => SG) ?_
          clear hK K hwG eF hbG ownF
          have cF := bF.cell
          have lBG : BZ ≤ wG.heap.size := Nat.le_trans lBa lowG.size
          have lG0 : zb < wG.heap.size := Nat.lt_of_lt_of_le kl0 lowG.size
          have lG1 : a0 < wG.heap.size := Nat.lt_of_lt_of_le kl1 lowG.size
          have lG2 : N15 < wG.heap.size := Nat.lt_of_lt_of_le kl2 lowG.size
          have lG3 : a1 < wG.heap.size := Nat.lt_of_lt_of_le kl3 lowG.size
          have lG4 : N16 < wG.heap.size := Nat.lt_of_lt_of_le kl4 lowG.size
          have lG5 : N26 < wG.heap.size := Nat.lt_of_lt_of_le kl5 lowG.size
          refine wpZ_one (i := 23) (by kernel_rfl) rfl (fun K hK => ?_)
          rw [if_pos (show Region.wanted _ _ = true from rfl)]
          refine wp_append_keep2 wG _ _ 22 rfl BZ 25 i0 (.agg #[.int .u64 0, .int .u64 0, .int .u64 0, .int .u64 0]) 4 32 Tryd.underlying22 HI.out HZ.out.1 HZ.out.2.1 HZ.out.2.2 rfl (by decide) _ L.length (els (fun i => L.getD i 0) L.length) rfl ownG ⟨NF, 0, none⟩ 1 1 [.int .u64 ((limb 0 z1 : Nat) : Int), .int .u64 ((limb 1 z1 : Nat) : Int), .int .u64 ((limb 2 z1 : Nat) : Int), .int .u64 ((limb 3 z1 : Nat) : Int)] rfl rfl ?c1 ?c2 ?c3 ?c4 lBG ?_
          case c1 =>
            intro q u hu
            have hadd : (⟨NF, 0, none⟩ : Addr).add q = ⟨NF, q, none⟩ := by unfold Addr.add; split <;> simp_all
            rw [hadd]
            match q, hu with
            | 0, hu => simp at hu; subst hu; exact cF 0 (by decide)
            | 1, hu => simp at hu; subst hu; exact cF 1 (by decide)
            | 2, hu => simp at hu; subst hu; exact cF 2 (by decide)
            | 3, hu => simp at hu; subst hu; exact cF 3 (by decide)
            | q + 4, hu => simp at hu
          case c2 => first | exact ⟨rfl, rfl, rfl, rfl⟩ | (intro u hu; simp at hu; rcases hu with rfl | rfl | rfl | rfl <;> rfl)
          case c3 => unfold maxLen; omega
          case c4 => omega
          intro v6 wH own6' hgr6 hkp
          have own6 := OwnL.push own6'
          have ek := fun l (hl : l < 4) => els_get (fun i => L.getD i 0) L.length j l hjL hl
          rw [HL.out.2.1] at ek
          have S6 : Rd4 wH zb (j * 4) p ∧ Rd4 wH a0 (o0 + j * 4) p0 ∧ Rd4 wH N15 0 be ∧ Rd4 wH a1 (o1 + j * 4) p1 ∧ Rd4 wH N16 0 ga ∧ Rd4 wH N26 0 y := ⟨⟨(hkp zb rfl).1 _ _ (ek 0 (by decide)), (hkp zb rfl).1 _ _ (ek 1 (by decide)), (hkp zb rfl).1 _ _ (ek 2 (by decide)), (hkp zb rfl).1 _ _ (ek 3 (by decide))⟩, SG.2.1.same (hgr6.block a0 lG1 (fun h => (by omega : zb ≠ a0) (Option.some.inj h).symm)), SG.2.2.1.same (hgr6.block N15 lG2 (fun h => (by omega : zb ≠ N15) (Option.some.inj h).symm)), SG.2.2.2.1.same (hgr6.block a1 lG3 (fun h => (by omega : zb ≠ a1) (Option.some.inj h).symm)), SG.2.2.2.2.1.same (hgr6.block N16 lG4 (fun h => (by omega : zb ≠ N16) (Option.some.inj h).symm)), SG.2.2.2.2.2.same (hgr6.block N26 lG5 (fun h => (by omega : zb ≠ N26) (Option.some.inj h).symm))⟩
          have hbGH : Below BZ wG wH := (Below.refl BZ wG).grown hgr6 lBG (fun q hq => own_block_geE ownG hq)
          have hbG2 : Below BZ w2 wG := hba.trans (lowG.mono lBa)
          have hbH : Below BZ w2 wH := hbG2.trans hbGH
          have lBH : BZ ≤ wH.heap.size := Nat.le_trans lBG hbGH.size
          have b24G := b24a.belowAll lowG
          have l24G := b24G.lt
          have b24H : Blk wH 25 N24 (fun _ => 0) := by unfold Blk at b24G ⊢; rw [hgr6.block N24 l24G (fun h => nz24 (Option.some.inj h).symm)]; exact b24G
          have HNEH : Hid (∀ g, v6.ownBlock = some g → g ≠ N24) := fun g hg => by
            rcases (hkp zb rfl).2 g hg with h | h
            · rw [h]; exact nz24
            · omega
          have HNBH : Hid (∀ i, i < j + 1 → B i ≠ 0) := fun i hi => by
            by_cases h : i = j
            · rw [h]; exact HY0.out
            · exact HNB.out i (by omega)
          have HOH : Hid (OwnL wH BZ v6 (zL Z (j + 1))) := by show OwnL _ _ _ _; rw [HL.out.2.2]; exact own6
          refine hK.out _ _ (fun _ => S6) ?_
          clear hK K own6' hgr6 hkp ek own6 ownG SG hbGH own5 hb hSa b24a b24G hba hbG2
          refine wpZ_take (i := 24) (v := v6) 23 rfl rfl (by kernel_rfl) (by kernel_rfl) (by kernel_rfl) (Or.inr (by decide)) (fun _ _ _ h => h) (Or.inl ⟨by rfl, fun w hSw => by go_simp⟩) S6 ?_
          simp only [Act.put, List.setIfInBounds_toArray]
          try dsimp only [List.set_cons_zero, List.set_cons_succ]
          refine wpZ_done (by kernel_rfl) ?_ _
          go_wp2
          go_roundw
          case measure => simp [intOf]; omega
          case rel => exact ⟨j + 1, by go_num, by omega, HOH.out, HNBH, hbH, b24H, HNEH, lBH⟩
    · have hji : ¬ (j : Int) < (U : Int) := by omega
      obtain rfl : U = j := by omega
      have HO0 : Hid (OwnL wr BZ _ (zL Z U ++ coinL el f 0)) := OwnL.cong own (show zL Z U = zL Z U ++ coinL el f 0 from (List.append_nil _).symm)
      have b17 := H17.out.1.below hb H17.out.2; have b18 := H18.out.1.below hb H18.out.2
      have hbw : Below w.heap.size w wr := HB2.out.trans (hb.mono HLW.out.1)
      clear own hb b24r HNE H0 H1 H2 H3 HT1 HT2 HBY HMU HB2
      go_wp2
      go_loopw [23] (fun zv wr => ∃ k : Nat, k ≤ 3 ∧ k ≤ m ∧ OwnL wr BZ zv (zL Z U ++ coinL el f k) ∧ Lay wr 36 N17 #[.slice oc m cm, .int .i64 (k : Int)] ∧ Lay wr 36 N18 #[.slice none 0 0, .int .i64 0] ∧ Below w.heap.size w wr ∧ BZ ≤ wr.heap.size) (fun zv _ => P - lenV zv)
      case atStart => exact ⟨0, by decide, Nat.zero_le _, HO0.out, b17, b18, hbw, lBr⟩
      case round =>
        obtain ⟨k, hk3, hkm, own, d17, d18, hb, lB⟩ := hrel
        clear b17 b18 hbw lBr HO0
        have hll : (zL Z U ++ coinL el f k).length = U + 1 + k := by rw [List.length_append, zL_len, coinL_len]
        have hes := own.es
        rw [hll] at hes
        rcases hes with ⟨_, hc0⟩ | ⟨zb, zo, c', rfl, _, _, lab, _⟩
        · omega
        have own0 : Hid (OwnL wr BZ (.slice (some ⟨zb, zo, none⟩) (U + 1 + k) c') (zL Z U ++ coinL el f k)) := own
        obtain ⟨n1, en1⟩ : ∃ z, z = U + 1 + k := ⟨_, rfl⟩
        have HN1 : Hid (n1 = U + 1 + k) := en1
        rw [← en1] at own0
        rw [← en1]
        clear en1 hll own
        by_cases hlt2 : k < 3
        · have hni : (n1 : Int) < (P : Int) := by have := HN1.out; omega
          have HNI : Hid (n1 < P) := by have := HN1.out; show _ < _; omega
          have q0 := d17.at (o := 0) rfl; have q1 := d17.at (o := 1) rfl
          by_cases hmk : m ≤ k
          · have hm3 : m < 3 := by omega
            go_wp2_with fail
            refine (rnext_none oc m cm k hmk wr).mono ?_
            rintro e w3 ⟨rfl, hb3⟩
            have d17b := d17.belowAll hb3; have d18b := d18.belowAll hb3
            have hbx3 := bStep hb hb3
            go_upto_region 20 with fail
            obtain ⟨w4, hw4⟩ : ∃ z : World, z = (w3.alloc (.cells #[.slice oc m cm, .int .i64 (k : Int)] 36)).alloc (.cells #[.int .u64 0, .int .u64 0, .int .u64 0, .int .u64 0] 25) := ⟨_, rfl⟩
            obtain ⟨N27, e27⟩ : ∃ z, z = w3.heap.size := ⟨_, rfl⟩
            have b27 : Lay w4 36 N27 #[.slice oc m cm, .int .i64 (k : Int)] := by rw [hw4]; exact (Lay.newAt _ _ _ e27).alloc _
            have hb4 : Below w3.heap.size w3 w4 := by rw [hw4]; exact bAlloc (bAlloc (Below.refl _ _) _) _
            have d17c := d17b.belowAll hb4; have d18c := d18b.belowAll hb4
            have hbx4 := bStep hbx3 hb4
            have n17_18 : N17 ≠ N18 := n17_18
            rw [← hw4]
            try rw [← e27]
            clear hw4 e27 q0 q1 d17 d18 d17b d18b hb hb3 hb4 hbx3
            have q0 := b27.at (o := 0) rfl; have q1 := b27.at (o := 1) rfl
            have f0 := d17c.frozen.1; have f1 := d17c.frozen.2
            have p0 := d17c.at (o := 0) rfl; have p1 := d17c.at (o := 1) rfl
            obtain ⟨w5, hw5, s17, hk5⟩ := d17c.put2 (.slice oc m cm) (.int .i64 (k : Int))
            have s18 := d18c.kept n17_18.symm hk5
            have hbx5 := bKept hbx4 l17 hk5
            have a0' := s17.at (o := 0) rfl; have a1' := s17.at (o := 1) rfl
            have g0 := s18.frozen.1; have g1 := s18.frozen.2
            have r0 := s18.at (o := 0) rfl; have r1 := s18.at (o := 1) rfl
            obtain ⟨w6, hw6, e18, hk6⟩ := s18.put2 (.slice oc m cm) (.int .i64 (k : Int))
            have hbe := bKept hbx5 l18 hk6
            have t0 := e18.at (o := 0) rfl; have t1 := e18.at (o := 1) rfl
            clear hk5 hk6 own0
            go_wp2
            refine bodyPost_ret (v := .tuple #[.agg #[.slice oc m cm, .int .i64 (k : Int)], .slice none 0 0, .int .i64 81]) (by simp [results, Tryd.results8, go_sem, t0, t1]) rfl ⟨Or.inr ⟨HNB.out, Or.inl ⟨hm3, _, rfl⟩⟩, hbe⟩
          · have hmk' : k < m := by omega
            have HNX := rnext_some oc m cm k f hmk' HN.out wr (HCZ.out.below hb)
            obtain ⟨k1, ek1⟩ : ∃ z, z = k + 1 := ⟨_, rfl⟩
            have HOX : Hid (∀ w, Calls Tryd.prog 22 #[.int .i64 si, .agg #[.int .u64 ((limb 0 (f k) : Nat) : Int), .int .u64 ((limb 1 (f k) : Nat) : Int), .int .u64 ((limb 2 (f k) : Nat) : Int), .int .u64 ((limb 3 (f k) : Nat) : Int)]] w fun e w' => e = .returned (.agg #[.int .u64 ((limb 0 (el (f k)) : Nat) : Int), .int .u64 ((limb 1 (el (f k)) : Nat) : Int), .int .u64 ((limb 2 (el (f k)) : Nat) : Int), .int .u64 ((limb 3 (el (f k)) : Nat) : Int)]) ∧ Below w.heap.size w w') := HOF.out k hmk'
            have HLS : Hid (k1 = k + 1 ∧ zL Z U ++ coinL el f k1 = (zL Z U ++ coinL el f k) ++ [el (f k)]) := ⟨ek1, by rw [ek1, coinL_succ, List.append_assoc]⟩
            obtain ⟨x, ex⟩ : ∃ z, z = f k := ⟨_, rfl⟩
            rw [← ek1, ← ex] at HNX
            rw [← ex] at HOX HLS
            obtain ⟨y, ey⟩ : ∃ z, z = el x := ⟨_, rfl⟩
            rw [← ey] at HOX HLS
            have HLL : Hid ((zL Z U ++ coinL el f k).length = n1 ∧ n1 ≤ 31) := ⟨by rw [List.length_append, zL_len, coinL_len]; exact HN1.out.symm, by have := HN1.out; have := HUP.out.2; omega⟩
            obtain ⟨L, eL⟩ : ∃ z, z = zL Z U ++ coinL el f k := ⟨_, rfl⟩
            rw [← eL] at own0 HLS HLL
            clear ek1 ex ey eL
            go_wp2_with fail
            refine HNX.mono ?_
            rintro e w3 ⟨rfl, hb3⟩
            have d17b := d17.belowAll hb3; have d18b := d18.belowAll hb3
            have hbx3 := bStep hb hb3
            have own3 := own0.out.below hb3
            have lB3 : BZ ≤ w3.heap.size := Nat.le_trans lB hb3.size
            go_upto_region 20 with fail
            obtain ⟨w4, hw4⟩ : ∃ z : World, z = (w3.alloc (.cells #[.slice oc m cm, .int .i64 (k1 : Int)] 36)).alloc (.cells #[.int .u64 ((limb 0 (x) : Nat) : Int), .int .u64 ((limb 1 (x) : Nat) : Int), .int .u64 ((limb 2 (x) : Nat) : Int), .int .u64 ((limb 3 (x) : Nat) : Int)] 25) := ⟨_, rfl⟩
            obtain ⟨N27, e27⟩ : ∃ z, z = w3.heap.size := ⟨_, rfl⟩
            obtain ⟨N28, e28⟩ : ∃ z, z = N27 + 1 := ⟨_, rfl⟩
            have hsz : (w3.alloc (.cells #[.slice oc m cm, .int .i64 (k1 : Int)] 36)).heap.size = w3.heap.size + 1 := Array.size_push ..
            have b27 : Lay w4 36 N27 #[.slice oc m cm, .int .i64 (k1 : Int)] := by rw [hw4]; exact (Lay.newAt _ _ _ e27).alloc _
            have b28 : Blk w4 25 N28 (fun i => limb i x) := by rw [hw4]; exact Blk.newAt _ _ _ (fun i => limb i x) (by rw [e28, e27, hsz])
            have hb4 : Below w3.heap.size w3 w4 := by rw [hw4]; exact bAlloc (bAlloc (Below.refl _ _) _) _
            have d17c := d17b.belowAll hb4; have d18c := d18b.belowAll hb4
            have hbx4 := bStep hbx3 hb4
            have own4 := own3.below hb4
            have lB4 : BZ ≤ w4.heap.size := Nat.le_trans lB3 hb4.size
            have l28 : BZ ≤ N28 := by omega
            rw [← hw4]
            try rw [← e27]
            try rw [← e28]
            clear hw4 e27 e28 hsz q0 q1 d17 d18 d17b d18b hb hb3 hb4 hbx3 own0 own3
            have q0 := b27.at (o := 0) rfl; have q1 := b27.at (o := 1) rfl
            have f0 := d17c.frozen.1; have f1 := d17c.frozen.2
            have p0 := d17c.at (o := 0) rfl; have p1 := d17c.at (o := 1) rfl
            obtain ⟨w5, hw5, s17, hk5⟩ := d17c.put2 (.slice oc m cm) (.int .i64 (k1 : Int))
            have s18 := d18c.kept n17_18.symm hk5
            have hbx5 := bKept hbx4 l17 hk5
            have x17 := H17.out.2; have x18 := H18.out.2
            have own5 := own4.keptB x17 hk5
            have b285 := b28.kept (show N28 ≠ N17 by omega) hk5
            have lB5 : BZ ≤ w5.heap.size := Nat.le_trans lB4 hk5.size
            have c28 := b285.cell
            clear hk5 own4 d18c b28
            go_wp2_with fail
            refine (HOX.out w5).mono ?_
            rintro e w6 ⟨rfl, hb6⟩
            have own60 := own5.below hb6
            have s176 := s17.belowAll hb6; have s186 := s18.belowAll hb6
            have hbx6 := bStep hbx5 hb6
            have lB6 : BZ ≤ w6.heap.size := Nat.le_trans lB5 hb6.size
            have hLn : L.length = n1 := HLL.out.1
            have hL31 : L.length ≤ 31 := by have := HLL.out.2; omega
            have own6 : OwnL w6 BZ (.slice (some ⟨zb, zo, none⟩) L.length c') L := by rw [hLn]; exact own60
            rw [← hLn]
            clear q0 q1 f0 f1 p0 p1 hw5 c28 own5 s17 s18 hbx5 lB5 hb6 b285 d17c b27 own60 hLn hni
            go_wp2_with (first
              | (at_builtin; refine wpList_append_own _ rfl _ _ 22 rfl BZ 25 i0 (.agg #[.int .u64 0, .int .u64 0, .int .u64 0, .int .u64 0]) 4 32 Tryd.underlying22 HI.out HZ.out.1 HZ.out.2.1 HZ.out.2.2 rfl (by decide) _ _ _ rfl (own6.alloc _) ⟨w6.heap.size, 0, none⟩ 1 1 [.int .u64 ((limb 0 y : Nat) : Int), .int .u64 ((limb 1 y : Nat) : Int), .int .u64 ((limb 2 y : Nat) : Int), .int .u64 ((limb 3 y : Nat) : Int)] rfl rfl ?c1 ?c2 ?c3 ?c4 ?c5 ?_)
              | go_in)
            try
              case c1 =>
                intro j u hj
                match j, hj with
                | 0, hj => simp at hj; subst hj; simp [Addr.add]
                | 1, hj => simp at hj; subst hj; simp [Addr.add]
                | 2, hj => simp at hj; subst hj; simp [Addr.add]
                | 3, hj => simp at hj; subst hj; simp [Addr.add]
                | j + 4, hj => simp at hj
            case c2 => first | exact ⟨rfl, rfl, rfl, rfl⟩ | (intro u hu; simp at hu; rcases hu with rfl | rfl | rfl | rfl <;> rfl)
            case c3 => unfold maxLen; omega
            case c4 => omega
            case c5 => first | omega | (simp; omega)
            intro v7 w7 own7' hgr7 _
            have own7 := OwnL.push own7'
            have hbg7 : Below BZ w6 w7 := ((Below.refl _ w6).alloc lB6 _).grown hgr7 (by simp; omega) (fun j hj => own_block_geE own6 hj)
            have lB7 : BZ ≤ w7.heap.size := Nat.le_trans lB6 hbg7.size
            have s177 := s176.below hbg7 x17; have s187 := s186.below hbg7 x18
            have hbx7 : Below w.heap.size w w7 := hbx6.trans (hbg7.mono HLW.out.1)
            have hlv : lenV v7 = n1 + 1 := by rw [OwnL.lenV own7 (by simp), List.length_append, HLL.out.1]; rfl
            have HO7 : Hid (OwnL w7 BZ v7 (zL Z U ++ coinL el f k1)) := by show OwnL _ _ _ _; rw [HLS.out.2]; exact own7
            have HK1 : Hid (k1 ≤ 3 ∧ k1 ≤ m) := by have := HLS.out.1; exact ⟨by omega, by omega⟩
            clear own6 own7' hgr7 own7 hbg7 s176 s186 hbx6 lB6 HLS
            go_wp2
            go_roundw
            case measure =>
              rw [hlv]
              show P - (n1 + 1) < P - n1
              have h1 := HLL.out.1
              have h2 := HNI.out
              omega
            case rel => exact ⟨k1, HK1.out.1, HK1.out.2, HO7.out, s177, s187, hbx7, lB7⟩
        · have hk : k = 3 := by omega
          subst hk
          have hni : ¬ (n1 : Int) < (P : Int) := by have := HN1.out; omega
          have e17 : Lay wr 36 N17 #[.slice oc m cm, .int .i64 3] := d17
          have HOZ : Hid (OwnL wr BZ (.slice (some ⟨zb, zo, none⟩) n1 c') (zL Z U ++ coinL el f 3)) := own0.out
          clear d17 own0
          have q0 := e17.at (o := 0) rfl; have q1 := e17.at (o := 1) rfl
          have f0 := d18.frozen.1; have f1 := d18.frozen.2
          obtain ⟨p0v, p0⟩ : ∃ v, wr.cell? ⟨N18, 0, none⟩ = some v := ⟨_, d18.at (o := 0) rfl⟩
          obtain ⟨p1v, p1⟩ : ∃ v, wr.cell? ⟨N18, 1, none⟩ = some v := ⟨_, d18.at (o := 1) rfl⟩
          obtain ⟨w9, hw9, e9, hk9⟩ := d18.put2 (.slice oc m cm) (.int .i64 3)
          have hbe := bKept hb l18 hk9
          have r0 := e9.at (o := 0) rfl; have r1 := e9.at (o := 1) rfl
          have hk9' := hk9
          clear hk9 d18
          go_wp2
          refine bodyPost_ret (v := .tuple #[.agg #[.slice oc m cm, .int .i64 3], .slice (some ⟨zb, zo, none⟩) n1 c', .int .i64 0]) (by simp [results, Tryd.results8, go_sem, r0, r1]) rfl ⟨Or.inr ⟨HNB.out, Or.inr ⟨hkm, _, rfl, ownL_base (HOZ.out.keptB H18.out.2 hk9') HLW.out.1⟩⟩, hbe⟩
end Go.Proofs.YteheloagjkengaaDoor
