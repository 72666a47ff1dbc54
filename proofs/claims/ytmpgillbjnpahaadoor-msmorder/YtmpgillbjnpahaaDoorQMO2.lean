/- MsmOrder: the walk. -/
import Derived.Test.YtmpgillbjnpahaaDoorQMO1
import Derived.Test.YtmpgillbjnpahaaDoorQMS19
import Derived.Test.YtmpgillbjnpahaaDoorQMS18
namespace Go.Proofs.YtmpgillbjnpahaaDoor
open Go.RowKit
theorem wrap_pred (a : Nat) (h : a < 9223372036854775808) : IntKind.i64.wrap ((a : Int) - 1) = (a : Int) - 1 := by
 cases a with
 | zero => rfl
 | succ a => rw [show ((a + 1 : Nat) : Int) - 1 = (a : Int) by omega]; exact wrap_i64_nat a (by omega)
theorem neqP_selfO (x y : Nat) (i : Bool) (hx : x < 115792089237316195423570985008687907853269984665640564039457584007913129639936) (hy : y < 115792089237316195423570985008687907853269984665640564039457584007913129639936) (w : World) : (binOp .neq 28 (.agg #[.int .u64 (limb 0 (x)), .int .u64 (limb 1 (x)), .int .u64 (limb 2 (x)), .int .u64 (limb 3 (x)), .int .u64 (limb 0 (y)), .int .u64 (limb 1 (y)), .int .u64 (limb 2 (y)), .int .u64 (limb 3 (y)), .bool i]) (.agg #[.int .u64 (limb 0 (x)), .int .u64 (limb 1 (x)), .int .u64 (limb 2 (x)), .int .u64 (limb 3 (x)), .int .u64 (limb 0 (y)), .int .u64 (limb 1 (y)), .int .u64 (limb 2 (y)), .int .u64 (limb 3 (y)), .bool i])).run Tryd.prog w = .ok (.bool false) w := by
 rw [run_neq_struct, eqP_in x y x y i i hx hy hx hy, decide_eq_true (⟨rfl, rfl, rfl⟩ : x = x ∧ y = y ∧ i = i)]; rfl
theorem trs_put1 (T : Nat → Nat × Nat × Nat × Bool) (n : Nat) (X : Nat × Nat × Nat × Bool) (h : T n = X) : trs T n ++ trs (fun _ => X) 1 = trs T (n + 1) := by
 rw [trs_add]
 refine trs_congr (fun i hi => ?_)
 by_cases e : i < n
 ·rw [if_pos e]
 ·rw [if_neg e, ← h, show i = n by omega]
theorem trs_spl (T : Nat → Nat × Nat × Nat × Bool) (m d : Nat) : trs (fun i => T (i + 1)) m ++ trs (fun i => if i = 0 then (d, (T 0).2) else (7, (T 0).2)) 2 = trs (splT T m d) (m + 2) := by
 rw [trs_add]
 refine trs_congr (fun i hi => ?_)
 unfold splT
 by_cases e : i < m
 ·rw [if_pos e, if_pos e]
 ·rw [if_neg e, if_neg e]
  by_cases e2 : i = m
  ·rw [if_pos e2, if_pos (by omega)]
  ·rw [if_neg e2, if_neg (by omega)]
theorem one_rowO (w : World) (N K X Y : Nat) (I : Bool) (hN : N = w.heap.size) : ∀ j u, (trs (fun _ => (K, X, Y, I)) 1)[j]? = some u → (w.alloc (.cells #[.int .u64 (limb 0 K), .int .u64 (limb 1 K), .int .u64 (limb 2 K), .int .u64 (limb 3 K), .int .u64 (limb 0 X), .int .u64 (limb 1 X), .int .u64 (limb 2 X), .int .u64 (limb 3 X), .int .u64 (limb 0 Y), .int .u64 (limb 1 Y), .int .u64 (limb 2 Y), .int .u64 (limb 3 Y), .bool I] 30)).cell? ((⟨N, 0, none⟩ : Addr).add j) = some u := by
 intro j u hj
 have hblk : (w.alloc (.cells #[.int .u64 (limb 0 K), .int .u64 (limb 1 K), .int .u64 (limb 2 K), .int .u64 (limb 3 K), .int .u64 (limb 0 X), .int .u64 (limb 1 X), .int .u64 (limb 2 X), .int .u64 (limb 3 X), .int .u64 (limb 0 Y), .int .u64 (limb 1 Y), .int .u64 (limb 2 Y), .int .u64 (limb 3 Y), .bool I] 30)).heap[N]? = some (.cells #[.int .u64 (limb 0 K), .int .u64 (limb 1 K), .int .u64 (limb 2 K), .int .u64 (limb 3 K), .int .u64 (limb 0 X), .int .u64 (limb 1 X), .int .u64 (limb 2 X), .int .u64 (limb 3 X), .int .u64 (limb 0 Y), .int .u64 (limb 1 Y), .int .u64 (limb 2 Y), .int .u64 (limb 3 Y), .bool I] 30) := by rw [hN]; exact new_blockT _ _
 have hlt : N < (w.alloc (.cells #[.int .u64 (limb 0 K), .int .u64 (limb 1 K), .int .u64 (limb 2 K), .int .u64 (limb 3 K), .int .u64 (limb 0 X), .int .u64 (limb 1 X), .int .u64 (limb 2 X), .int .u64 (limb 3 X), .int .u64 (limb 0 Y), .int .u64 (limb 1 Y), .int .u64 (limb 2 Y), .int .u64 (limb 3 Y), .bool I] 30)).heap.size := (Array.getElem?_eq_some_iff.1 hblk).1
 refine trs_cells (fun _ => (K, X, Y, I)) 1 N 0 _ _ (Below.refl _ _) hlt (fun i hi l hl => ?_) j u hj
 rw [show 0 + i * 13 + l = l from by omega]
 have hl' : l = 0 ∨ l = 1 ∨ l = 2 ∨ l = 3 ∨ l = 4 ∨ l = 5 ∨ l = 6 ∨ l = 7 ∨ l = 8 ∨ l = 9 ∨ l = 10 ∨ l = 11 ∨ l = 12 := by omega
 rcases hl' with rfl | rfl | rfl | rfl | rfl | rfl | rfl | rfl | rfl | rfl | rfl | rfl | rfl <;> simp [World.cell?, hblk, tC]
theorem seven_limbs : limb 0 7 = 7 ∧ limb 1 7 = 0 ∧ limb 2 7 = 0 ∧ limb 3 7 = 0 := by decide
theorem two_rowO (w : World) (N d X Y : Nat) (I : Bool) (hN : N = w.heap.size) : ∀ j u, (trs (fun i => if i = 0 then (d, X, Y, I) else (7, X, Y, I)) 2)[j]? = some u → (w.alloc (.cells #[.int .u64 (limb 0 d), .int .u64 (limb 1 d), .int .u64 (limb 2 d), .int .u64 (limb 3 d), .int .u64 (limb 0 X), .int .u64 (limb 1 X), .int .u64 (limb 2 X), .int .u64 (limb 3 X), .int .u64 (limb 0 Y), .int .u64 (limb 1 Y), .int .u64 (limb 2 Y), .int .u64 (limb 3 Y), .bool I, .int .u64 7, .int .u64 0, .int .u64 0, .int .u64 0, .int .u64 (limb 0 X), .int .u64 (limb 1 X), .int .u64 (limb 2 X), .int .u64 (limb 3 X), .int .u64 (limb 0 Y), .int .u64 (limb 1 Y), .int .u64 (limb 2 Y), .int .u64 (limb 3 Y), .bool I] 30)).cell? ((⟨N, 0, none⟩ : Addr).add j) = some u := by
 intro j u hj
 have hblk : (w.alloc (.cells #[.int .u64 (limb 0 d), .int .u64 (limb 1 d), .int .u64 (limb 2 d), .int .u64 (limb 3 d), .int .u64 (limb 0 X), .int .u64 (limb 1 X), .int .u64 (limb 2 X), .int .u64 (limb 3 X), .int .u64 (limb 0 Y), .int .u64 (limb 1 Y), .int .u64 (limb 2 Y), .int .u64 (limb 3 Y), .bool I, .int .u64 7, .int .u64 0, .int .u64 0, .int .u64 0, .int .u64 (limb 0 X), .int .u64 (limb 1 X), .int .u64 (limb 2 X), .int .u64 (limb 3 X), .int .u64 (limb 0 Y), .int .u64 (limb 1 Y), .int .u64 (limb 2 Y), .int .u64 (limb 3 Y), .bool I] 30)).heap[N]? = some (.cells #[.int .u64 (limb 0 d), .int .u64 (limb 1 d), .int .u64 (limb 2 d), .int .u64 (limb 3 d), .int .u64 (limb 0 X), .int .u64 (limb 1 X), .int .u64 (limb 2 X), .int .u64 (limb 3 X), .int .u64 (limb 0 Y), .int .u64 (limb 1 Y), .int .u64 (limb 2 Y), .int .u64 (limb 3 Y), .bool I, .int .u64 7, .int .u64 0, .int .u64 0, .int .u64 0, .int .u64 (limb 0 X), .int .u64 (limb 1 X), .int .u64 (limb 2 X), .int .u64 (limb 3 X), .int .u64 (limb 0 Y), .int .u64 (limb 1 Y), .int .u64 (limb 2 Y), .int .u64 (limb 3 Y), .bool I] 30) := by rw [hN]; exact new_blockT _ _
 have hlt : N < (w.alloc (.cells #[.int .u64 (limb 0 d), .int .u64 (limb 1 d), .int .u64 (limb 2 d), .int .u64 (limb 3 d), .int .u64 (limb 0 X), .int .u64 (limb 1 X), .int .u64 (limb 2 X), .int .u64 (limb 3 X), .int .u64 (limb 0 Y), .int .u64 (limb 1 Y), .int .u64 (limb 2 Y), .int .u64 (limb 3 Y), .bool I, .int .u64 7, .int .u64 0, .int .u64 0, .int .u64 0, .int .u64 (limb 0 X), .int .u64 (limb 1 X), .int .u64 (limb 2 X), .int .u64 (limb 3 X), .int .u64 (limb 0 Y), .int .u64 (limb 1 Y), .int .u64 (limb 2 Y), .int .u64 (limb 3 Y), .bool I] 30)).heap.size := (Array.getElem?_eq_some_iff.1 hblk).1
 refine trs_cells _ 2 N 0 _ _ (Below.refl _ _) hlt (fun i hi l hl => ?_) j u hj
 have hi' : i = 0 ∨ i = 1 := by omega
 have hl' : l = 0 ∨ l = 1 ∨ l = 2 ∨ l = 3 ∨ l = 4 ∨ l = 5 ∨ l = 6 ∨ l = 7 ∨ l = 8 ∨ l = 9 ∨ l = 10 ∨ l = 11 ∨ l = 12 := by omega
 rcases hi' with rfl | rfl
 ·rcases hl' with rfl | rfl | rfl | rfl | rfl | rfl | rfl | rfl | rfl | rfl | rfl | rfl | rfl <;> simp [World.cell?, hblk, tC]
 ·rcases hl' with rfl | rfl | rfl | rfl | rfl | rfl | rfl | rfl | rfl | rfl | rfl | rfl | rfl <;> simp [World.cell?, hblk, tC, seven_limbs]
set_option maxHeartbeats 16000000 in
set_option maxRecDepth 20000 in
theorem morder_gen (c E : Int) (n cn x y d : Nat) (i : Bool) (oa : Option Addr) (T : Nat → Nat × Nat × Nat × Bool) (hx : x < 115792089237316195423570985008687907853269984665640564039457584007913129639936) (hy : y < 115792089237316195423570985008687907853269984665640564039457584007913129639936)
  (H1 : n ≤ 60 → ∀ (v : Value) (w : World), GlobC w → Rs w v 13 n (fun i => tC (T i)) → Calls Tryd.prog 5 #[.int .i64 c, v] w fun e w' => e = .returned (.tuple #[.agg #[.int .u64 (limb 0 (x)), .int .u64 (limb 1 (x)), .int .u64 (limb 2 (x)), .int .u64 (limb 3 (x)), .int .u64 (limb 0 (y)), .int .u64 (limb 1 (y)), .int .u64 (limb 2 (y)), .int .u64 (limb 3 (y)), .bool i], .int .i64 E]) ∧ Below w.heap.size w w')
  (H2 : n ≤ 60 → ∀ (v : Value) (w : World), GlobC w → Rs w v 13 n (fun i => tC (revT T n i)) → Calls Tryd.prog 5 #[.int .i64 c, v] w fun e w' => e = .returned (.tuple #[.agg #[.int .u64 (limb 0 (x)), .int .u64 (limb 1 (x)), .int .u64 (limb 2 (x)), .int .u64 (limb 3 (x)), .int .u64 (limb 0 (y)), .int .u64 (limb 1 (y)), .int .u64 (limb 2 (y)), .int .u64 (limb 3 (y)), .bool i], .int .i64 E]) ∧ Below w.heap.size w w')
  (H3 : E = 0 → ∀ m, n = m + 1 → n ≤ 60 → ∀ (v : Value) (w : World), GlobC w → Rs w v 13 (m + 2) (fun i => tC (splT T m d i)) → Calls Tryd.prog 5 #[.int .i64 c, v] w fun e w' => e = .returned (.tuple #[.agg #[.int .u64 (limb 0 (x)), .int .u64 (limb 1 (x)), .int .u64 (limb 2 (x)), .int .u64 (limb 3 (x)), .int .u64 (limb 0 (y)), .int .u64 (limb 1 (y)), .int .u64 (limb 2 (y)), .int .u64 (limb 3 (y)), .bool i], .int .i64 0]) ∧ Below w.heap.size w w')
  (H4 : E = 0 → 0 < n → ∀ w, GlobC w → Calls Tryd.prog 7 #[.int .i64 (bits BinOp.xor IntKind.i64 c 1), .agg #[.int .u64 (limb 0 ((T 0).1)), .int .u64 (limb 1 ((T 0).1)), .int .u64 (limb 2 ((T 0).1)), .int .u64 (limb 3 ((T 0).1))], .agg #[.int .u64 7, .int .u64 0, .int .u64 0, .int .u64 0]] w fun e w' => e = .returned (.agg #[.int .u64 (limb 0 (d)), .int .u64 (limb 1 (d)), .int .u64 (limb 2 (d)), .int .u64 (limb 3 (d))]) ∧ Below w.heap.size w w')
  (w : World) (hg : GlobC w) (hv : Rs w (.slice oa n cn) 13 n (fun i => tC (T i))) :
  Calls Tryd.prog 3 #[.int .i64 c, .slice oa n cn] w fun e w' => e = .returned (.bool true) ∧ Below w.heap.size w w' := by
 have HG0 : Hid (GlobC w) := hg; have HV : Hid (Rs w (.slice oa n cn) 13 n (fun i => tC (T i))) := hv
 have HH1 := (show Hid _ from H1); have HH2 := (show Hid _ from H2); have HH3 := (show Hid _ from H3); have HH4 := (show Hid _ from H4)
 have QP := fun w => eqlP_self x y i hx hy w
 have QN := fun w => neqP_selfO x y i hx hy w
 obtain ⟨i0, hi, hz0, hz1, hz2⟩ := termInfo
 have HI := (show Hid _ from hi); have HZ := (show Hid _ from And.intro hz0 (And.intro hz1 hz2)); clear hi hz0 hz1 hz2
 clear hg hv H1 H2 H3 H4 hx hy
 go_enter Tryd.func3, Tryd.ntmps3
 go_wp2_with fail
 refine (alive5_any _ HG0.out).mono ?_
 rintro e w1 ⟨rfl, hb1⟩
 by_cases h60 : (60 : Int) < (n : Int)
 ·go_wp2
  go_ret
  exact ⟨rfl, hb1⟩
 ·have HN : Hid (n ≤ 60) := by show n ≤ 60; omega
  have HW1 : Hid (IntKind.i64.wrap ((n : Int) - 1) = (n : Int) - 1) := wrap_pred n (by omega)
  have hwr := HW1.out
  go_upto_region 6 with fail
  obtain ⟨N5, eN5⟩ : ∃ N, N = w1.heap.size := ⟨_, rfl⟩
  obtain ⟨w2, hw2⟩ : ∃ zz : World, zz = w1.alloc (.cells #[] 30) := ⟨_, rfl⟩
  have HO2 : Hid (w2.ownsRow w.heap.size 30 13 (.slice (some ⟨N5, 0, none⟩) 0 0) 0 []) := by
   rw [hw2, eN5]
   exact ⟨rfl, Or.inr ⟨_, _, _, rfl, hb1.size, new_blockT _ _, Nat.le_refl _, Nat.zero_le _, rfl, rfl⟩⟩
  have hb2 : Below w.heap.size w w2 := by rw [hw2]; exact bAlloc hb1 _
  rw [← hw2, ← eN5]
  clear hw2 eN5 hb1
  go_wp2
  go_loopw [5, 6] (fun out iv wr => ∃ k : Nat, iv = .int .i64 ((n : Int) - 1 - (k : Int)) ∧ k ≤ n ∧ Below w.heap.size w wr ∧ Hid (wr.ownsRow w.heap.size 30 13 out k (trs (revT T n) k))) (fun _ iv _ => (intOf iv + 1).toNat)
  case atStart => exact ⟨0, by simp, Nat.zero_le _, hb2, HO2.out⟩
  case round =>
   obtain ⟨k, rfl, hk, hbr, HO⟩ := hrel
   clear hb2 HO2
   by_cases hlt : k < n
   ·obtain ⟨j, ej⟩ : ∃ j : Nat, j = n - 1 - k := ⟨_, rfl⟩
    have hji : (n : Int) - 1 - (k : Int) = (j : Int) := by omega
    have hj0 : (0 : Int) ≤ (j : Int) := by omega
    have hjn : j < n := by omega
    have hjI : (j : Int) < (n : Int) := by omega
    rw [hji]
    have HRJ : Hid (revT T n k = T j) := by show T (n - 1 - k) = T j; rw [ej]
    have HJK : Hid ((j : Int) - 1 = (n : Int) - 1 - ((k + 1 : Nat) : Int)) := by show (j : Int) - 1 = _; omega
    have hwj : IntKind.i64.wrap ((j : Int) - 1) = (j : Int) - 1 := by have := HN.out; exact wrap_pred j (by omega)
    clear hji ej
    obtain ⟨ab, ao, rfl, lab, hcell⟩ := HV.out.at hjn
    have hTE : ∃ K X Y I, T j = (K, X, Y, I) := ⟨_, _, _, _, rfl⟩
    obtain ⟨K, X, Y, I, hE⟩ := hTE
    have ca : ∀ t, t < 13 → wr.cell? ⟨ab, ao + j * 13 + t, none⟩ = some (tC (T j) t) := fun t ht => by rw [hbr.cell (p := ⟨ab, ao + j * 13 + t, none⟩) lab]; exact hcell t ht
    rw [hE] at ca
    have HEj : Hid (revT T n k = (K, X, Y, I)) := HRJ.out.trans hE
    clear hE hcell HRJ
    obtain ⟨t0, t1, t2, t3, t4, t5, t6, t7, t8, t9, t10, t11, t12⟩ := tC_cells K X Y I
    have a0 := ca 0 (by decide); rw [t0] at a0
    have a1 := ca 1 (by decide); rw [t1] at a1
    have a2 := ca 2 (by decide); rw [t2] at a2
    have a3 := ca 3 (by decide); rw [t3] at a3
    have a4 := ca 4 (by decide); rw [t4] at a4
    have a5 := ca 5 (by decide); rw [t5] at a5
    have a6 := ca 6 (by decide); rw [t6] at a6
    have a7 := ca 7 (by decide); rw [t7] at a7
    have a8 := ca 8 (by decide); rw [t8] at a8
    have a9 := ca 9 (by decide); rw [t9] at a9
    have a10 := ca 10 (by decide); rw [t10] at a10
    have a11 := ca 11 (by decide); rw [t11] at a11
    have a12 := ca 12 (by decide); rw [t12] at a12
    clear ca t0 t1 t2 t3 t4 t5 t6 t7 t8 t9 t10 t11 t12
    rw [Nat.add_zero] at a0
    obtain ⟨NS, eNS⟩ : ∃ N, N = wr.heap.size := ⟨_, rfl⟩
    have hbA : Below wr.heap.size wr (wr.alloc (.cells #[.int .u64 (limb 0 K), .int .u64 (limb 1 K), .int .u64 (limb 2 K), .int .u64 (limb 3 K), .int .u64 (limb 0 X), .int .u64 (limb 1 X), .int .u64 (limb 2 X), .int .u64 (limb 3 X), .int .u64 (limb 0 Y), .int .u64 (limb 1 Y), .int .u64 (limb 2 Y), .int .u64 (limb 3 Y), .bool I] 30)) := bAlloc (Below.refl _ _) _
    have HOA : Hid ((wr.alloc (.cells #[.int .u64 (limb 0 K), .int .u64 (limb 1 K), .int .u64 (limb 2 K), .int .u64 (limb 3 K), .int .u64 (limb 0 X), .int .u64 (limb 1 X), .int .u64 (limb 2 X), .int .u64 (limb 3 X), .int .u64 (limb 0 Y), .int .u64 (limb 1 Y), .int .u64 (limb 2 Y), .int .u64 (limb 3 Y), .bool I] 30)).ownsRow w.heap.size 30 13 u5 k (trs (revT T n) k)) := HO.out.kept (row := none) ⟨hbA.os, hbA.tape, hbA.output, hbA.size, fun k hk _ => hbA.block k hk⟩ (by cases h : u5.ownBlock with | none => exact Or.inl rfl | some j => exact Or.inr (by simp))
    have HRW : Hid (∀ j u, (trs (fun _ => (K, X, Y, I)) 1)[j]? = some u → (wr.alloc (.cells #[.int .u64 (limb 0 K), .int .u64 (limb 1 K), .int .u64 (limb 2 K), .int .u64 (limb 3 K), .int .u64 (limb 0 X), .int .u64 (limb 1 X), .int .u64 (limb 2 X), .int .u64 (limb 3 X), .int .u64 (limb 0 Y), .int .u64 (limb 1 Y), .int .u64 (limb 2 Y), .int .u64 (limb 3 Y), .bool I] 30)).cell? ((⟨wr.heap.size, 0, none⟩ : Addr).add j) = some u) := one_rowO wr wr.heap.size K X Y I rfl
    have HBS : Hid (w.heap.size ≤ (wr.alloc (.cells #[.int .u64 (limb 0 K), .int .u64 (limb 1 K), .int .u64 (limb 2 K), .int .u64 (limb 3 K), .int .u64 (limb 0 X), .int .u64 (limb 1 X), .int .u64 (limb 2 X), .int .u64 (limb 3 X), .int .u64 (limb 0 Y), .int .u64 (limb 1 Y), .int .u64 (limb 2 Y), .int .u64 (limb 3 Y), .bool I] 30)).heap.size) := Nat.le_trans hbr.size hbA.size
    go_wp2_with (first
     | (at_builtin; refine wpList_append_own _ rfl _ _ 22 rfl w.heap.size 30 i0 (.agg #[.int .u64 0, .int .u64 0, .int .u64 0, .int .u64 0, .int .u64 0, .int .u64 0, .int .u64 0, .int .u64 0, .int .u64 0, .int .u64 0, .int .u64 0, .int .u64 0, .bool false]) 13 104 Tryd.underlying22 HI.out HZ.out.1 HZ.out.2.1 HZ.out.2.2 rfl (by decide) u5 k (trs (revT T n) k) rfl HOA.out ⟨wr.heap.size, 0, none⟩ 1 1 (trs (fun _ => (K, X, Y, I)) 1) rfl (trs_len _ _) HRW.out (trs_one _ _) ?c1 ?c2 HBS.out ?_)
     | go_in)
    case c1 => have := HN.out; unfold maxLen; omega
    case c2 => have := HN.out; omega
    intro v' w5 hown5 hgrow _
    rw [trs_put1 _ _ _ HEj.out] at hown5
    have hbr5 : Below w.heap.size w w5 := (hbr.trans (hbA.mono hbr.size)).grown hgrow HBS.out (fun j hj => own_ge HO.out hj)
    clear a0 a1 a2 a3 a4 a5 a6 a7 a8 a9 a10 a11 a12 hbA HOA HRW HBS hgrow hbr
    go_wp2
    go_roundw
    case measure => simp [intOf]
    case rel => exact ⟨k + 1, by rw [HJK.out], by omega, hbr5, hown5⟩
   ·have ek : k = n := by omega
    have hneg : ¬ (0 : Int) ≤ (n : Int) - 1 - (k : Int) := by omega
    have HRB : Hid (Rs wr u5 13 n (fun i => tC (revT T n i))) := by
     have := own_Rs HO.out
     rw [ek] at this
     exact this
    clear ek HO
    have HV2 : Hid (Rs wr (.slice oa n cn) 13 n (fun i => tC (T i))) := HV.out.below hbr
    go_wp2_with fail
    refine (copyT_any n _ T (Nat.le_trans HN.out (by decide)) _ HV2.out).mono ?_
    rintro e w3 ⟨v', rfl, hown, hb3⟩
    have HV3 : Hid (Rs w3 v' 13 n (fun i => tC (T i))) := own_Rs hown
    have HRB3 : Hid (Rs w3 u5 13 n (fun i => tC (revT T n i))) := HRB.out.below hb3
    have hbw3 := bStep hbr hb3
    clear hown hbr hb3 HV2 HRB
    have HG3 : Hid (GlobC w3) := HG0.out.below hbw3
    go_wp2_with fail
    refine (HH1.out HN.out v' _ HG3.out HV3.out).mono ?_
    rintro e w4 ⟨rfl, hb4⟩
    have hbw5 := bAlloc (bStep hbw3 hb4) (.cells #[.int .u64 (limb 0 x), .int .u64 (limb 1 x), .int .u64 (limb 2 x), .int .u64 (limb 3 x), .int .u64 (limb 0 y), .int .u64 (limb 1 y), .int .u64 (limb 2 y), .int .u64 (limb 3 y), .bool i] 28)
    have ba5 : Pt (w4.alloc (.cells #[.int .u64 (limb 0 x), .int .u64 (limb 1 x), .int .u64 (limb 2 x), .int .u64 (limb 3 x), .int .u64 (limb 0 y), .int .u64 (limb 1 y), .int .u64 (limb 2 y), .int .u64 (limb 3 y), .bool i] 28)) w4.heap.size x y i := Pt.newAt _ _ _ _ _ rfl
    have hx5 := bAlloc hb4 (.cells #[.int .u64 (limb 0 x), .int .u64 (limb 1 x), .int .u64 (limb 2 x), .int .u64 (limb 3 x), .int .u64 (limb 0 y), .int .u64 (limb 1 y), .int .u64 (limb 2 y), .int .u64 (limb 3 y), .bool i] 28)
    have HRB5' := HRB3.out.below hx5
    clear hbw3 hb4 HV3 HRB3 HG3 HH1 hx5
    go_upto_region 11 with fail
    obtain ⟨w5, hw5⟩ : ∃ WW : World, WW = w4.alloc (.cells #[.int .u64 (limb 0 x), .int .u64 (limb 1 x), .int .u64 (limb 2 x), .int .u64 (limb 3 x), .int .u64 (limb 0 y), .int .u64 (limb 1 y), .int .u64 (limb 2 y), .int .u64 (limb 3 y), .bool i] 28) := ⟨_, rfl⟩
    obtain ⟨N1, hN1⟩ : ∃ N, N = w4.heap.size := ⟨_, rfl⟩
    rw [← hw5] at ba5 hbw5 HRB5' ⊢
    rw [← hN1] at ba5 ⊢
    have HRB5 : Hid (Rs w5 u5 13 n (fun i => tC (revT T n i))) := HRB5'
    clear hw5 hN1 HRB5'
    have HG5 : Hid (GlobC w5) := HG0.out.below hbw5
    go_wp2_with fail
    refine (HH2.out HN.out _ _ HG5.out HRB5.out).mono ?_
    rintro e w6 ⟨rfl, hb6⟩
    have hbw7 := bAlloc (bStep hbw5 hb6) (.cells #[.int .u64 (limb 0 x), .int .u64 (limb 1 x), .int .u64 (limb 2 x), .int .u64 (limb 3 x), .int .u64 (limb 0 y), .int .u64 (limb 1 y), .int .u64 (limb 2 y), .int .u64 (limb 3 y), .bool i] 28)
    have bb7 : Pt (w6.alloc (.cells #[.int .u64 (limb 0 x), .int .u64 (limb 1 x), .int .u64 (limb 2 x), .int .u64 (limb 3 x), .int .u64 (limb 0 y), .int .u64 (limb 1 y), .int .u64 (limb 2 y), .int .u64 (limb 3 y), .bool i] 28)) w6.heap.size x y i := Pt.newAt _ _ _ _ _ rfl
    have ba7 := (ba5.belowAll hb6).alloc (.cells #[.int .u64 (limb 0 x), .int .u64 (limb 1 x), .int .u64 (limb 2 x), .int .u64 (limb 3 x), .int .u64 (limb 0 y), .int .u64 (limb 1 y), .int .u64 (limb 2 y), .int .u64 (limb 3 y), .bool i] 28)
    clear hbw5 hb6 HRB5 HH2 ba5 HG5
    go_upto_region 12 with fail
    obtain ⟨w7, hw7⟩ : ∃ WW : World, WW = w6.alloc (.cells #[.int .u64 (limb 0 x), .int .u64 (limb 1 x), .int .u64 (limb 2 x), .int .u64 (limb 3 x), .int .u64 (limb 0 y), .int .u64 (limb 1 y), .int .u64 (limb 2 y), .int .u64 (limb 3 y), .bool i] 28) := ⟨_, rfl⟩
    obtain ⟨N2, hN2⟩ : ∃ N, N = w6.heap.size := ⟨_, rfl⟩
    rw [← hw7] at ba7 bb7 hbw7 ⊢
    rw [← hN2] at bb7 ⊢
    clear hw7 hN2
    obtain ⟨p0, p1, p2, p3, p4, p5, p6, p7, p8, pf⟩ := ba7.cells
    obtain ⟨q0, q1, q2, q3, q4, q5, q6, q7, q8, qf⟩ := bb7.cells
    by_cases hE : E = 0
    ·by_cases hn1 : (n : Int) < 1
     ·go_wp2
      go_ret
      exact ⟨rfl, hbw7⟩
     ·obtain ⟨m, em⟩ : ∃ m, n = m + 1 := ⟨n - 1, by omega⟩
      have hn0 : 0 < n := by omega
      have h4 := HH4.out hE hn0
      have h3 := HH3.out hE m em HN.out
      have hn0I : (0 : Int) < (n : Int) := by omega
      obtain ⟨sx, esx⟩ : ∃ sx, sx = bits BinOp.xor IntKind.i64 c 1 := ⟨_, rfl⟩
      rw [← esx] at h4
      have hxo : bits BinOp.xor IntKind.i64 c 1 = sx := esx.symm
      clear esx HH3 HH4
      obtain ⟨ab, ao, rfl, lab, hcell⟩ := HV.out.at hn0
      have hTE : ∃ KZ X Y I, T 0 = (KZ, X, Y, I) := ⟨_, _, _, _, rfl⟩
      obtain ⟨KZ, X, Y, I, hTE⟩ := hTE
      rw [hTE] at h4
      have HSU := (show Hid _ from h4); have HS3 := (show Hid _ from h3)
      clear h4 h3
      have ca : ∀ t, t < 13 → w7.cell? ⟨ab, ao + t, none⟩ = some (tC (T 0) t) := fun t ht => by
       rw [hbw7.cell (p := ⟨ab, ao + t, none⟩) lab]
       have := hcell t ht
       rwa [Nat.zero_mul, Nat.add_zero] at this
      rw [hTE] at ca
      have HET : Hid (T 0 = (KZ, X, Y, I)) := hTE
      have HEM : Hid (n = m + 1) := em
      have hLn : (n : Int) - 1 = (m : Int) := by omega
      obtain ⟨oA, hoA⟩ : ∃ oA : Option Addr, (if cn = 1 then some ⟨ab, ao, none⟩ else some ⟨ab, ao + 13, none⟩) = oA := ⟨_, rfl⟩
      have h1n : (1 : Int) ≤ (n : Int) := by omega
      have hnm : n - 1 = m := by omega
      have HTL : Hid (Rs w (.slice oA m (cn - 1)) 13 m (fun i => tC (T (i + 1)))) := by
       rcases HV.out with ⟨h1, h2⟩ | ⟨b, o, c', hsl, hnc, hcm, hlb, hcl⟩
       ·omega
       ·cases hsl
        rw [← hoA]
        by_cases hc1 : cn = 1
        ·rw [if_pos hc1]
         exact Or.inr ⟨ab, ao, cn - 1, rfl, by omega, by omega, hlb, fun i hi j hj => absurd hi (by omega)⟩
        ·rw [if_neg hc1]
         refine Or.inr ⟨ab, ao + 13, cn - 1, rfl, by omega, by omega, hlb, fun i hi j hj => ?_⟩
         have := hcl (i + 1) (by omega) j hj
         rwa [show ao + (i + 1) * 13 + j = ao + 13 + i * 13 + j from by omega] at this
      clear hTE em hcell
      obtain ⟨t0, t1, t2, t3, t4, t5, t6, t7, t8, t9, t10, t11, t12⟩ := tC_cells KZ X Y I
      have a0 := ca 0 (by decide); rw [t0] at a0
      have a1 := ca 1 (by decide); rw [t1] at a1
      have a2 := ca 2 (by decide); rw [t2] at a2
      have a3 := ca 3 (by decide); rw [t3] at a3
      have a4 := ca 4 (by decide); rw [t4] at a4
      have a5 := ca 5 (by decide); rw [t5] at a5
      have a6 := ca 6 (by decide); rw [t6] at a6
      have a7 := ca 7 (by decide); rw [t7] at a7
      have a8 := ca 8 (by decide); rw [t8] at a8
      have a9 := ca 9 (by decide); rw [t9] at a9
      have a10 := ca 10 (by decide); rw [t10] at a10
      have a11 := ca 11 (by decide); rw [t11] at a11
      have a12 := ca 12 (by decide); rw [t12] at a12
      clear ca t0 t1 t2 t3 t4 t5 t6 t7 t8 t9 t10 t11 t12
      rw [Nat.add_zero] at a0
      go_upto_region 17 with fail
      obtain ⟨N11, eN11⟩ : ∃ N, N = w7.heap.size := ⟨_, rfl⟩
      obtain ⟨w8, hw8⟩ : ∃ zz : World, zz = w7.alloc (.cells #[.int .u64 (limb 0 KZ), .int .u64 (limb 1 KZ), .int .u64 (limb 2 KZ), .int .u64 (limb 3 KZ), .int .u64 (limb 0 X), .int .u64 (limb 1 X), .int .u64 (limb 2 X), .int .u64 (limb 3 X), .int .u64 (limb 0 Y), .int .u64 (limb 1 Y), .int .u64 (limb 2 Y), .int .u64 (limb 3 Y), .bool I] 30) := ⟨_, rfl⟩
      have bt8 : Tt w8 N11 KZ X Y I := by rw [hw8, eN11]; exact Tt.newAt _ _ _ _ _ _ rfl
      have hbw8 : Below w.heap.size w w8 := by rw [hw8]; exact bAlloc hbw7 _
      have ba8 : Pt w8 N1 x y i := by rw [hw8]; exact ba7.alloc _
      rw [← hw8, ← eN11]
      clear hw8 eN11 a0 a1 a2 a3 a4 a5 a6 a7 a8 a9 a10 a11 a12 p0 p1 p2 p3 p4 p5 p6 p7 p8 pf q0 q1 q2 q3 q4 q5 q6 q7 q8 qf ba7 bb7 hbw7
      have HTL8 : Hid (Rs w8 (.slice oA m (cn - 1)) 13 m (fun i => tC (T (i + 1)))) := HTL.out.below hbw8
      have HG8 : Hid (GlobC w8) := HG0.out.below hbw8
      have HM6 : Hid (m ≤ 1000000) := by have := HN.out; have := HEM.out; show m ≤ 1000000; omega
      clear HTL
      have HS0 : Hid (Below w8.heap.size w8 w8.drew) := (Below.refl _ _).drew
      refine wp_region_Z (fun w' => Below w8.heap.size w8 w') 99 (by kernel_rfl) ?_
      refine zt 0 65 (.slice (some ⟨ab, ao, none⟩) n cn) rfl rfl (fun w hSw => by go_simp) HS0.out ?_
      simp only [Act.put, z1]
      dsimp only [z2, z3]
      refine zt 1 66 (.slice oA m (cn - 1)) rfl rfl (fun w hSw => by go_simp) HS0.out ?_
      simp only [Act.put, z1]
      dsimp only [z2, z3]
      refine zt 3 68 (.int .i64 c) rfl rfl (fun w hSw => by go_simp) HS0.out ?_
      simp only [Act.put, z1]
      dsimp only [z2, z3]
      refine zt 4 69 (.int .i64 sx) rfl rfl (fun w hSw => by go_simp) HS0.out ?_
      simp only [Act.put, z1]
      dsimp only [z2, z3]
      refine zt 5 70 (.pointer (some ⟨N11, 0, none⟩)) rfl rfl (fun w hSw => by go_simp) HS0.out ?_
      simp only [Act.put, z1]
      dsimp only [z2, z3]
      refine zt 6 71 (.agg #[.int .u64 (limb 0 (KZ)), .int .u64 (limb 1 (KZ)), .int .u64 (limb 2 (KZ)), .int .u64 (limb 3 (KZ))]) rfl rfl (fun w hSw => by (obtain ⟨q0, q1, q2, q3, q4, q5, q6, q7, q8, q9, q10, q11, q12⟩ := (bt8.belowAll hSw).cells; clear hSw; go_simp)) HS0.out ?_
      simp only [Act.put, z1]
      dsimp only [z2, z3]
      refine zt 7 72 (.agg #[.int .u64 7, .int .u64 0, .int .u64 0, .int .u64 0]) rfl rfl (fun w hSw => by go_simp) HS0.out ?_
      simp only [Act.put, z1]
      dsimp only [z2, z3]
      refine zt 9 74 (.pointer (some ⟨N11, 4, none⟩)) rfl rfl (fun w hSw => by go_simp) HS0.out ?_
      simp only [Act.put, z1]
      dsimp only [z2, z3]
      refine zt 10 75 (.agg #[.int .u64 (limb 0 (X)), .int .u64 (limb 1 (X)), .int .u64 (limb 2 (X)), .int .u64 (limb 3 (X)), .int .u64 (limb 0 (Y)), .int .u64 (limb 1 (Y)), .int .u64 (limb 2 (Y)), .int .u64 (limb 3 (Y)), .bool I]) rfl rfl (fun w hSw => by (obtain ⟨q0, q1, q2, q3, q4, q5, q6, q7, q8, q9, q10, q11, q12⟩ := (bt8.belowAll hSw).cells; clear hSw; go_simp)) HS0.out ?_
      simp only [Act.put, z1]
      dsimp only [z2, z3]
      refine zt 12 77 (.agg #[.int .u64 7, .int .u64 0, .int .u64 0, .int .u64 0]) rfl rfl (fun w hSw => by go_simp) HS0.out ?_
      simp only [Act.put, z1]
      dsimp only [z2, z3]
      refine zt 13 78 (.pointer (some ⟨N11, 4, none⟩)) rfl rfl (fun w hSw => by go_simp) HS0.out ?_
      simp only [Act.put, z1]
      dsimp only [z2, z3]
      refine zt 14 79 (.agg #[.int .u64 (limb 0 (X)), .int .u64 (limb 1 (X)), .int .u64 (limb 2 (X)), .int .u64 (limb 3 (X)), .int .u64 (limb 0 (Y)), .int .u64 (limb 1 (Y)), .int .u64 (limb 2 (Y)), .int .u64 (limb 3 (Y)), .bool I]) rfl rfl (fun w hSw => by (obtain ⟨q0, q1, q2, q3, q4, q5, q6, q7, q8, q9, q10, q11, q12⟩ := (bt8.belowAll hSw).cells; clear hSw; go_simp)) HS0.out ?_
      simp only [Act.put, z1]
      dsimp only [z2, z3]
      refine zt 15 80 (.agg #[.int .u64 7, .int .u64 0, .int .u64 0, .int .u64 0, .int .u64 (limb 0 X), .int .u64 (limb 1 X), .int .u64 (limb 2 X), .int .u64 (limb 3 X), .int .u64 (limb 0 Y), .int .u64 (limb 1 Y), .int .u64 (limb 2 Y), .int .u64 (limb 3 Y), .bool I]) rfl rfl (fun w hSw => by go_simp) HS0.out ?_
      simp only [Act.put, z1]
      dsimp only [z2, z3]
      refine wpZ_one (i := 2) (by kernel_rfl) rfl (fun K hK => ?_)
      go_simp
      refine (copyT_any m _ (fun i => T (i + 1)) HM6.out _ (HTL8.out.below (HS0.out))).mono ?_
      rintro e wC ⟨vc, rfl, hownC, hbC⟩
      have hSC : Below w8.heap.size w8 wC := bStep (HS0.out) hbC
      have HOC : Hid (wC.ownsRow w8.heap.size 30 13 vc m (trs (fun i => T (i + 1)) m)) := hownC
      go_wp2_with fail
      refine hK.out _ _ (fun _ => hSC) ?_
      clear hK K hownC hbC
      refine wpZ_one (i := 8) (by kernel_rfl) rfl (fun K hK => ?_)
      go_simp
      refine (HSU.out wC (HG8.out.below (hSC))).mono ?_
      rintro e wK1 ⟨rfl, hbK1⟩
      have hSK1 : Below w8.heap.size w8 wK1 := bStep (hSC) hbK1
      go_wp2_with fail
      refine hK.out _ _ (fun _ => hSK1) ?_
      clear hK K
      refine zt 11 76 (.agg #[.int .u64 (limb 0 d), .int .u64 (limb 1 d), .int .u64 (limb 2 d), .int .u64 (limb 3 d), .int .u64 (limb 0 X), .int .u64 (limb 1 X), .int .u64 (limb 2 X), .int .u64 (limb 3 X), .int .u64 (limb 0 Y), .int .u64 (limb 1 Y), .int .u64 (limb 2 Y), .int .u64 (limb 3 Y), .bool I]) rfl rfl (fun w hSw => by go_simp) hSK1 ?_
      simp only [Act.put, z1]
      dsimp only [z2, z3]
      refine wpZ_one (i := 16) (by kernel_rfl) rfl (fun K hK => ?_)
      go_simp
      obtain ⟨NS, eNS⟩ : ∃ N, N = wK1.heap.size := ⟨_, rfl⟩
      obtain ⟨wB, hwB⟩ : ∃ zz : World, zz = wK1.alloc (.cells #[.int .u64 (limb 0 d), .int .u64 (limb 1 d), .int .u64 (limb 2 d), .int .u64 (limb 3 d), .int .u64 (limb 0 X), .int .u64 (limb 1 X), .int .u64 (limb 2 X), .int .u64 (limb 3 X), .int .u64 (limb 0 Y), .int .u64 (limb 1 Y), .int .u64 (limb 2 Y), .int .u64 (limb 3 Y), .bool I, .int .u64 7, .int .u64 0, .int .u64 0, .int .u64 0, .int .u64 (limb 0 X), .int .u64 (limb 1 X), .int .u64 (limb 2 X), .int .u64 (limb 3 X), .int .u64 (limb 0 Y), .int .u64 (limb 1 Y), .int .u64 (limb 2 Y), .int .u64 (limb 3 Y), .bool I] 30) := ⟨_, rfl⟩
      have hrow : ∀ j u, (trs (fun i => if i = 0 then (d, X, Y, I) else (7, X, Y, I)) 2)[j]? = some u → wB.cell? ((⟨NS, 0, none⟩ : Addr).add j) = some u := by rw [hwB]; exact two_rowO wK1 NS d X Y I eNS
      have hbB : Below wK1.heap.size wK1 wB := by rw [hwB]; exact bAlloc (Below.refl _ _) _
      have hSB : Below w8.heap.size w8 wB := bStep (hSK1) hbB
      have hbB2 : Below wC.heap.size wC wB := bStep hbK1 hbB
      have hownB : wB.ownsRow w8.heap.size 30 13 vc m (trs (fun i => T (i + 1)) m) := HOC.out.kept (row := none) ⟨hbB2.os, hbB2.tape, hbB2.output, hbB2.size, fun k hk _ => hbB2.block k hk⟩ (by cases h : vc.ownBlock with | none => exact Or.inl rfl | some j => exact Or.inr (by simp))
      rw [← hwB, ← eNS]
      refine hK.out _ _ (fun _ => hSB) ?_
      clear hK K hwB eNS hbB hbB2
      refine wpZ_one (i := 17) (by kernel_rfl) rfl (fun K hK => ?_)
      rw [if_pos (show Region.wanted _ _ = true from rfl)]
      refine wp_append_own wB _ _ 22 rfl w8.heap.size 30 i0 (.agg #[.int .u64 0, .int .u64 0, .int .u64 0, .int .u64 0, .int .u64 0, .int .u64 0, .int .u64 0, .int .u64 0, .int .u64 0, .int .u64 0, .int .u64 0, .int .u64 0, .bool false]) 13 104 Tryd.underlying22 HI.out HZ.out.1 HZ.out.2.1 HZ.out.2.2 rfl (by decide) vc m (trs (fun i => T (i + 1)) m) rfl hownB ⟨NS, 0, none⟩ 2 2 (trs (fun i => if i = 0 then (d, X, Y, I) else (7, X, Y, I)) 2) rfl (trs_len _ _) hrow (trs_one _ _) ?c1 ?c2 hSB.size ?_
      case c1 => have := HM6.out; unfold maxLen; omega
      case c2 => have := HM6.out; omega
      intro va wA hownA hgrow _
      have hSA : Below w8.heap.size w8 wA := hSB.grown hgrow hSB.size (fun j hj => own_ge hownB hj)
      have hE2 : ((X, Y, I) : Nat × Nat × Bool) = (T 0).2 := by rw [HET.out]
      rw [hE2, trs_spl] at hownA
      have HRA : Hid (Rs wA va 13 (m + 2) (fun i => tC (splT T m d i))) := own_Rs hownA
      clear hownA hgrow hownB hrow hE2 hSB HOC
      go_simp
      refine hK.out _ _ (fun _ => hSA) ?_
      clear hK K
      refine zt 18 12 (va) rfl rfl (fun w hSw => by go_simp) hSA ?_
      simp only [Act.put, z1]
      dsimp only [z2, z3]
      refine wpZ_done (by kernel_rfl) ?_ _
      have hbwA := bStep hbw8 hSA; have baA := ba8.belowAll hSA
      have HGA : Hid (GlobC wA) := HG0.out.below hbwA
      clear hSA hbw8 ba8 bt8
      go_wp2_with fail
      refine (HS3.out va _ HGA.out HRA.out).mono ?_
      rintro e w10 ⟨rfl, hb10⟩
      have hbw11 := bAlloc (bStep hbwA hb10) (.cells #[.int .u64 (limb 0 x), .int .u64 (limb 1 x), .int .u64 (limb 2 x), .int .u64 (limb 3 x), .int .u64 (limb 0 y), .int .u64 (limb 1 y), .int .u64 (limb 2 y), .int .u64 (limb 3 y), .bool i] 28)
      have bd11 : Pt (w10.alloc (.cells #[.int .u64 (limb 0 x), .int .u64 (limb 1 x), .int .u64 (limb 2 x), .int .u64 (limb 3 x), .int .u64 (limb 0 y), .int .u64 (limb 1 y), .int .u64 (limb 2 y), .int .u64 (limb 3 y), .bool i] 28)) w10.heap.size x y i := Pt.newAt _ _ _ _ _ rfl
      have ba11 := (baA.belowAll hb10).alloc (.cells #[.int .u64 (limb 0 x), .int .u64 (limb 1 x), .int .u64 (limb 2 x), .int .u64 (limb 3 x), .int .u64 (limb 0 y), .int .u64 (limb 1 y), .int .u64 (limb 2 y), .int .u64 (limb 3 y), .bool i] 28)
      clear hbwA hb10 baA HRA HGA
      go_upto_region 19 with fail
      obtain ⟨w11, hw11⟩ : ∃ WW : World, WW = w10.alloc (.cells #[.int .u64 (limb 0 x), .int .u64 (limb 1 x), .int .u64 (limb 2 x), .int .u64 (limb 3 x), .int .u64 (limb 0 y), .int .u64 (limb 1 y), .int .u64 (limb 2 y), .int .u64 (limb 3 y), .bool i] 28) := ⟨_, rfl⟩
      obtain ⟨N13, hN13⟩ : ∃ N, N = w10.heap.size := ⟨_, rfl⟩
      rw [← hw11] at ba11 bd11 hbw11 ⊢
      rw [← hN13] at bd11 ⊢
      clear hw11 hN13
      obtain ⟨p0, p1, p2, p3, p4, p5, p6, p7, p8, pf⟩ := ba11.cells
      obtain ⟨q0, q1, q2, q3, q4, q5, q6, q7, q8, qf⟩ := bd11.cells
      go_wp2
      go_ret
      exact ⟨rfl, hbw11⟩
    ·go_wp2
     go_ret
     exact ⟨rfl, hbw7⟩
theorem seven_E : (.agg #[.int .u64 (limb 0 (7)), .int .u64 (limb 1 (7)), .int .u64 (limb 2 (7)), .int .u64 (limb 3 (7))] : Value) = .agg #[.int .u64 7, .int .u64 0, .int .u64 0, .int .u64 0] := by
 rw [seven_limbs.1, seven_limbs.2.1, seven_limbs.2.2.1, seven_limbs.2.2.2]; rfl
theorem revT_M {n : Nat} {T : Nat → Nat × Nat × Nat × Bool} (hT : ∀ i, i < n → (T i).1 < 115792089237316195423570985008687907853269984665640564039457584007913129639936 ∧ (T i).2.1 < 115792089237316195423570985008687907853269984665640564039457584007913129639936 ∧ (T i).2.2.1 < 115792089237316195423570985008687907853269984665640564039457584007913129639936) : ∀ i, i < n → (revT T n i).1 < 115792089237316195423570985008687907853269984665640564039457584007913129639936 ∧ (revT T n i).2.1 < 115792089237316195423570985008687907853269984665640564039457584007913129639936 ∧ (revT T n i).2.2.1 < 115792089237316195423570985008687907853269984665640564039457584007913129639936 := fun i hi => hT (n - 1 - i) (by omega)
theorem splT_M {m d : Nat} {T : Nat → Nat × Nat × Nat × Bool} (hd : d < 115792089237316195423570985008687907853269984665640564039457584007913129639936) (hT : ∀ i, i < m + 1 → (T i).1 < 115792089237316195423570985008687907853269984665640564039457584007913129639936 ∧ (T i).2.1 < 115792089237316195423570985008687907853269984665640564039457584007913129639936 ∧ (T i).2.2.1 < 115792089237316195423570985008687907853269984665640564039457584007913129639936) : ∀ i, i < m + 2 → (splT T m d i).1 < 115792089237316195423570985008687907853269984665640564039457584007913129639936 ∧ (splT T m d i).2.1 < 115792089237316195423570985008687907853269984665640564039457584007913129639936 ∧ (splT T m d i).2.2.1 < 115792089237316195423570985008687907853269984665640564039457584007913129639936 := fun i hi => by
 unfold splT
 split
 ·exact hT (i + 1) (by omega)
 ·split
  ·exact ⟨hd, (hT 0 (by omega)).2⟩
  ·exact ⟨by show (7 : Nat) < 115792089237316195423570985008687907853269984665640564039457584007913129639936; decide, (hT 0 (by omega)).2⟩
/-- MsmOrder of anything. -/
theorem morder_walk (c : Int) (n : Nat) (v : Value) (T : Nat → Nat × Nat × Nat × Bool) (hT : ∀ i, i < n → (T i).1 < 115792089237316195423570985008687907853269984665640564039457584007913129639936 ∧ (T i).2.1 < 115792089237316195423570985008687907853269984665640564039457584007913129639936 ∧ (T i).2.2.1 < 115792089237316195423570985008687907853269984665640564039457584007913129639936) (w : World) (hg : GlobC w) (hv : Rs w v 13 n (fun i => tC (T i))) :
  Calls Tryd.prog 3 #[.int .i64 c, v] w fun e w' => e = .returned (.bool true) ∧ Below w.heap.size w w' := by
 obtain ⟨oa, cn, rfl⟩ := hv.shape
 by_cases hc : c < 0 ∨ 4 ≤ c
 ·exact morder_gen c 40 n cn 0 0 0 false oa T (by decide) (by decide) (fun _ v w hg _ => msum_out c hc v w hg) (fun _ v w hg _ => msum_out c hc v w hg) (fun h => absurd h (by decide)) (fun h => absurd h (by decide)) w hg hv
 ·obtain ⟨d, rfl⟩ : ∃ d : Nat, c = (d : Int) := ⟨c.toNat, by omega⟩
  have hd : d < 4 := by omega
  obtain ⟨x, y, i, E, hx, hy, hone, hok⟩ := sumE_oneO (c := d) (n := n) (T := T)
  refine morder_gen (d : Int) E n cn x y (subP (xc d) (T 0).1 7) i oa T hx hy (fun hn v w hg hv => ?_) (fun hn v w hg hv => ?_) (fun h0 m em hn v2 w2 hg2 hv2 => ?_) (fun h0 hn w hg => ?_) w hg hv
  ·obtain ⟨oa, cn, rfl⟩ := hv.shape
   refine (msum_in d n cn oa T hd (Nat.le_trans hn (by decide)) hT w hg hv).mono ?_
   rintro e w' ⟨h, hb⟩
   exact ⟨hone e h, hb⟩
  ·obtain ⟨oa, cn, rfl⟩ := hv.shape
   refine (msum_in d n cn oa (revT T n) hd (Nat.le_trans hn (by decide)) (revT_M hT) w hg hv).mono ?_
   rintro e w' ⟨h, hb⟩
   exact ⟨hone e (revE h), hb⟩
  ·obtain ⟨ob, cb, rfl⟩ := hv2.shape
   subst em
   refine (msum_in d (m + 2) cb ob (splT T m (subP (xc d) (T 0).1 7)) hd (by omega) (splT_M (subP_M _ _ _) hT) w2 hg2 hv2).mono ?_
   rintro e w' ⟨h, hb⟩
   exact ⟨splE hd (hok h0).1 (hok h0).2 h, hb⟩
  ·have h := fSub_any (xc d) (T 0).1 7 (xc_lt hd) (hT 0 hn).1 (by decide) w hg.1
   rw [seven_E, ← xor_c d hd] at h
   exact h
end Go.Proofs.YtmpgillbjnpahaaDoor
