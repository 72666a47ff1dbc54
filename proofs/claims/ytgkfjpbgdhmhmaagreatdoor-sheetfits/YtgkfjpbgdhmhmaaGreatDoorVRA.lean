import Derived.Test.YtgkfjpbgdhmhmaaGreatDoorVLF
set_option maxHeartbeats 8000000
namespace Go.Proofs.YtgkfjpbgdhmhmaaGreatDoor
open Go.RowKit
open Go.Maps
def memB (n : Nat) (Q : Nat -> Int × Int × Int) (q : Int × Int × Int) : Bool := decide (∃ i, i < n /\ Q i = q)
def IdxP (e : Ending) (n : Nat) (Q : Nat -> Int × Int × Int) (q : Int × Int × Int) : Prop := ∃ r : Int, e = .returned (.int .i64 r) /\ ((0 <= r /\ memB n Q q = true) \/ (r < 0 /\ memB n Q q = false))
theorem ite3 (q p : Int × Int × Int) (w : World) : (if q.1 = p.1 then if q.2.1 = p.2.1 then if q.2.2 = p.2.2 then Result.ok (Next.value (.bool true)) w else Result.ok (Next.value (.bool false)) w else Result.ok (Next.value (.bool false)) w else Result.ok (Next.value (.bool false)) w) = Result.ok (Next.value (.bool (decide (q = p)))) w := by
 obtain ⟨a, b, c⟩ := q
 obtain ⟨x, y, z⟩ := p
 by_cases h1 : a = x <;> by_cases h2 : b = y <;> by_cases h3 : c = z <;> simp [h1, h2, h3]
end Go.Proofs.YtgkfjpbgdhmhmaaGreatDoor
namespace Go.Proofs.YtgkfjpbgdhmhmaaGreatDoor
open Go.RowKit
theorem rquery_any (O X Y : Int) (Z : Nat) (w : World) : Calls Tryz.prog 94 #[.agg #[.int .i64 O, .int .i64 X, .int .i64 Y, .int .u64 (limb 0 Z), .int .u64 (limb 1 Z), .int .u64 (limb 2 Z), .int .u64 (limb 3 Z)]] w fun e w' => e = .returned (.bool (isQ O)) /\ Below w.heap.size w w' := by
 have HBF : Hid (Below w.heap.size w (w.alloc (.cells #[.int .i64 O, .int .i64 X, .int .i64 Y, .int .u64 (limb 0 Z), .int .u64 (limb 1 Z), .int .u64 (limb 2 Z), .int .u64 (limb 3 Z)] 64))) := bAlloc (Below.refl _ _) _
 by_cases h2 : 2 <= O
 ·by_cases h4 : O <= 4
  ·have HQ : Hid (isQ O = true) := decide_eq_true ⟨h2, h4⟩
   go_enter Tryz.func94, Tryz.ntmps94
   go_wp2
   go_ret
   exact ⟨by rw [HQ.out]; rfl, HBF.out⟩
  ·have HQ : Hid (isQ O = false) := decide_eq_false (fun h => h4 h.2)
   have h4d : decide (O <= 4) = false := decide_eq_false h4
   go_enter Tryz.func94, Tryz.ntmps94
   go_wp2
   go_ret
   exact ⟨by rw [HQ.out]; rfl, HBF.out⟩
 ·have HQ : Hid (isQ O = false) := decide_eq_false (fun h => h2 h.1)
  have h2' : O < 2 := by omega
  have h2d : decide (2 <= O) = false := decide_eq_false h2
  go_enter Tryz.func94, Tryz.ntmps94
  go_wp2
  go_ret
  exact ⟨by rw [HQ.out]; rfl, HBF.out⟩
theorem rplace_any (F A I : Int) (oN oG oL oE : Option Addr) (n cN g cG l cL m cE : Nat) (p : Int) (w : World) : Calls Tryz.prog 62 #[.agg #[.int .i64 F, .int .i64 A, .int .i64 I, .slice oN n cN, .slice oG g cG, .slice oL l cL, .slice oE m cE], .int .i64 p] w fun e w' => e = .returned (.bool (plB n p)) /\ Below w.heap.size w w' := by
 have HBF : Hid (Below w.heap.size w (w.alloc (.cells #[.int .i64 F, .int .i64 A, .int .i64 I, .slice oN n cN, .slice oG g cG, .slice oL l cL, .slice oE m cE] 27))) := bAlloc (Below.refl _ _) _
 by_cases h2 : 0 <= p
 ·by_cases h4 : p < (n : Int)
  ·have HQ : Hid (plB n p = true) := decide_eq_true ⟨h2, h4⟩
   go_enter Tryz.func62, Tryz.ntmps62
   go_wp2
   go_ret
   exact ⟨by rw [HQ.out]; rfl, HBF.out⟩
  ·have HQ : Hid (plB n p = false) := decide_eq_false (fun h => h4 h.2)
   have h4d : decide (p < (n : Int)) = false := decide_eq_false h4
   go_enter Tryz.func62, Tryz.ntmps62
   go_wp2
   go_ret
   exact ⟨by rw [HQ.out]; rfl, HBF.out⟩
 ·have HQ : Hid (plB n p = false) := decide_eq_false (fun h => h2 h.1)
  have h2' : p < 0 := by omega
  have h2d : decide (0 <= p) = false := decide_eq_false h2
  go_enter Tryz.func62, Tryz.ntmps62
  go_wp2
  go_ret
  exact ⟨by rw [HQ.out]; rfl, HBF.out⟩
theorem rusable_any (k : Int) (w : World) : Calls Tryz.prog 33 #[.int .i64 k] w fun e w' => e = .returned (.int .i64 (if 2 <= k /\ k <= 30 then 2 ^ k.toNat - 4 else 0)) /\ Below w.heap.size w w' := by
 by_cases h2 : k < 2
 ·rw [if_neg (by omega)]
  go_enter Tryz.func33, Tryz.ntmps33
  go_wp2
  go_ret
  exact ⟨rfl, Below.refl _ _⟩
 ·by_cases h30 : 30 < k
  ·rw [if_neg (by omega)]
   go_enter Tryz.func33, Tryz.ntmps33
   go_wp2
   go_ret
   exact ⟨rfl, Below.refl _ _⟩
  ·rw [if_pos (by omega)]
   obtain ⟨q, rfl⟩ : ∃ q : Nat, k = q := ⟨k.toNat, by omega⟩
   have hq : 2 <= q /\ q <= 30 := by omega
   have hk0 : ¬ (q : Int) < 0 := by omega
   have e1 : (2 : Int) ^ q = ((2 ^ q : Nat) : Int) := by simp
   have hP : 4 <= 2 ^ q /\ 2 ^ q <= 1073741824 := ⟨Nat.pow_le_pow_right (n := 2) (by decide) hq.1, Nat.pow_le_pow_right (n := 2) (by decide) hq.2⟩
   obtain ⟨P, eP⟩ := lv (2 ^ q)
   rw [<- eP] at e1 hP
   have hkw : IntKind.i64.wrap ((2 : Int) ^ q) = (P : Int) := by rw [e1]; simp [IntKind.wrap, IntKind.bits, IntKind.signed]; omega
   have HE : Hid ((2 : Int) ^ q = (P : Int)) := e1
   clear eP e1
   go_enter Tryz.func33, Tryz.ntmps33
   go_wp2
   go_ret
   exact ⟨by rw [HE.out]; rfl, Below.refl _ _⟩
end Go.Proofs.YtgkfjpbgdhmhmaaGreatDoor
namespace Go.Proofs.YtgkfjpbgdhmhmaaGreatDoor
open Go.RowKit
set_option maxRecDepth 100000 in
theorem ruses_any (O X Y : Int) (Z : Nat) (w : World) : Calls Tryz.prog 120 #[.agg #[.int .i64 O, .int .i64 X, .int .i64 Y, .int .u64 (limb 0 Z), .int .u64 (limb 1 Z), .int .u64 (limb 2 Z), .int .u64 (limb 3 Z)]] w fun e w' => (∃ v, e = .returned v /\ Zs w' v (uN O) (uF X Y)) /\ Below w.heap.size w w' := by
 by_cases h5 : O = 5
 ·subst h5
  have HB : Hid (Below w.heap.size w ((w.alloc (.cells #[.int .i64 5, .int .i64 X, .int .i64 Y, .int .u64 (limb 0 Z), .int .u64 (limb 1 Z), .int .u64 (limb 2 Z), .int .u64 (limb 3 Z)] 64)).alloc (.cells #[.int .i64 X] 3))) := bAlloc (bAlloc (Below.refl _ _) _) _
  have HZ : Hid (Zs ((w.alloc (.cells #[.int .i64 5, .int .i64 X, .int .i64 Y, .int .u64 (limb 0 Z), .int .u64 (limb 1 Z), .int .u64 (limb 2 Z), .int .u64 (limb 3 Z)] 64)).alloc (.cells #[.int .i64 X] 3)) (.slice (some ⟨(w.alloc (.cells #[.int .i64 5, .int .i64 X, .int .i64 Y, .int .u64 (limb 0 Z), .int .u64 (limb 1 Z), .int .u64 (limb 2 Z), .int .u64 (limb 3 Z)] 64)).heap.size, 0, none⟩) 1 1) 1 (uF X Y)) := one_Zs (w.alloc (.cells #[.int .i64 5, .int .i64 X, .int .i64 Y, .int .u64 (limb 0 Z), .int .u64 (limb 1 Z), .int .u64 (limb 2 Z), .int .u64 (limb 3 Z)] 64)) X Y
  have e1 : (w.alloc (.cells #[.int .i64 5, .int .i64 X, .int .i64 Y, .int .u64 (limb 0 Z), .int .u64 (limb 1 Z), .int .u64 (limb 2 Z), .int .u64 (limb 3 Z)] 64)).heap.size = w.heap.size + 1 := by simp
  rw [e1] at HZ
  clear e1
  go_enter Tryz.func120, Tryz.ntmps120
  go_wp2
  go_ret
  exact ⟨⟨_, rfl, HZ.out⟩, HB.out⟩
 by_cases h8 : O = 8
 ·subst h8
  have HB : Hid (Below w.heap.size w ((w.alloc (.cells #[.int .i64 8, .int .i64 X, .int .i64 Y, .int .u64 (limb 0 Z), .int .u64 (limb 1 Z), .int .u64 (limb 2 Z), .int .u64 (limb 3 Z)] 64)).alloc (.cells #[.int .i64 X] 3))) := bAlloc (bAlloc (Below.refl _ _) _) _
  have HZ : Hid (Zs ((w.alloc (.cells #[.int .i64 8, .int .i64 X, .int .i64 Y, .int .u64 (limb 0 Z), .int .u64 (limb 1 Z), .int .u64 (limb 2 Z), .int .u64 (limb 3 Z)] 64)).alloc (.cells #[.int .i64 X] 3)) (.slice (some ⟨(w.alloc (.cells #[.int .i64 8, .int .i64 X, .int .i64 Y, .int .u64 (limb 0 Z), .int .u64 (limb 1 Z), .int .u64 (limb 2 Z), .int .u64 (limb 3 Z)] 64)).heap.size, 0, none⟩) 1 1) 1 (uF X Y)) := one_Zs (w.alloc (.cells #[.int .i64 8, .int .i64 X, .int .i64 Y, .int .u64 (limb 0 Z), .int .u64 (limb 1 Z), .int .u64 (limb 2 Z), .int .u64 (limb 3 Z)] 64)) X Y
  have e1 : (w.alloc (.cells #[.int .i64 8, .int .i64 X, .int .i64 Y, .int .u64 (limb 0 Z), .int .u64 (limb 1 Z), .int .u64 (limb 2 Z), .int .u64 (limb 3 Z)] 64)).heap.size = w.heap.size + 1 := by simp
  rw [e1] at HZ
  clear e1
  go_enter Tryz.func120, Tryz.ntmps120
  go_wp2
  go_ret
  exact ⟨⟨_, rfl, HZ.out⟩, HB.out⟩
 by_cases h6 : O = 6
 ·subst h6
  have HB : Hid (Below w.heap.size w ((w.alloc (.cells #[.int .i64 6, .int .i64 X, .int .i64 Y, .int .u64 (limb 0 Z), .int .u64 (limb 1 Z), .int .u64 (limb 2 Z), .int .u64 (limb 3 Z)] 64)).alloc (.cells #[.int .i64 X, .int .i64 Y] 3))) := bAlloc (bAlloc (Below.refl _ _) _) _
  have HZ : Hid (Zs ((w.alloc (.cells #[.int .i64 6, .int .i64 X, .int .i64 Y, .int .u64 (limb 0 Z), .int .u64 (limb 1 Z), .int .u64 (limb 2 Z), .int .u64 (limb 3 Z)] 64)).alloc (.cells #[.int .i64 X, .int .i64 Y] 3)) (.slice (some ⟨(w.alloc (.cells #[.int .i64 6, .int .i64 X, .int .i64 Y, .int .u64 (limb 0 Z), .int .u64 (limb 1 Z), .int .u64 (limb 2 Z), .int .u64 (limb 3 Z)] 64)).heap.size, 0, none⟩) 2 2) 2 (uF X Y)) := two_Zs (w.alloc (.cells #[.int .i64 6, .int .i64 X, .int .i64 Y, .int .u64 (limb 0 Z), .int .u64 (limb 1 Z), .int .u64 (limb 2 Z), .int .u64 (limb 3 Z)] 64)) X Y
  have e1 : (w.alloc (.cells #[.int .i64 6, .int .i64 X, .int .i64 Y, .int .u64 (limb 0 Z), .int .u64 (limb 1 Z), .int .u64 (limb 2 Z), .int .u64 (limb 3 Z)] 64)).heap.size = w.heap.size + 1 := by simp
  rw [e1] at HZ
  clear e1
  go_enter Tryz.func120, Tryz.ntmps120
  go_wp2
  go_ret
  exact ⟨⟨_, rfl, HZ.out⟩, HB.out⟩
 by_cases h7 : O = 7
 ·subst h7
  have HB : Hid (Below w.heap.size w ((w.alloc (.cells #[.int .i64 7, .int .i64 X, .int .i64 Y, .int .u64 (limb 0 Z), .int .u64 (limb 1 Z), .int .u64 (limb 2 Z), .int .u64 (limb 3 Z)] 64)).alloc (.cells #[.int .i64 X, .int .i64 Y] 3))) := bAlloc (bAlloc (Below.refl _ _) _) _
  have HZ : Hid (Zs ((w.alloc (.cells #[.int .i64 7, .int .i64 X, .int .i64 Y, .int .u64 (limb 0 Z), .int .u64 (limb 1 Z), .int .u64 (limb 2 Z), .int .u64 (limb 3 Z)] 64)).alloc (.cells #[.int .i64 X, .int .i64 Y] 3)) (.slice (some ⟨(w.alloc (.cells #[.int .i64 7, .int .i64 X, .int .i64 Y, .int .u64 (limb 0 Z), .int .u64 (limb 1 Z), .int .u64 (limb 2 Z), .int .u64 (limb 3 Z)] 64)).heap.size, 0, none⟩) 2 2) 2 (uF X Y)) := two_Zs (w.alloc (.cells #[.int .i64 7, .int .i64 X, .int .i64 Y, .int .u64 (limb 0 Z), .int .u64 (limb 1 Z), .int .u64 (limb 2 Z), .int .u64 (limb 3 Z)] 64)) X Y
  have e1 : (w.alloc (.cells #[.int .i64 7, .int .i64 X, .int .i64 Y, .int .u64 (limb 0 Z), .int .u64 (limb 1 Z), .int .u64 (limb 2 Z), .int .u64 (limb 3 Z)] 64)).heap.size = w.heap.size + 1 := by simp
  rw [e1] at HZ
  clear e1
  go_enter Tryz.func120, Tryz.ntmps120
  go_wp2
  go_ret
  exact ⟨⟨_, rfl, HZ.out⟩, HB.out⟩
 have HB : Hid (Below w.heap.size w (w.alloc (.cells #[.int .i64 O, .int .i64 X, .int .i64 Y, .int .u64 (limb 0 Z), .int .u64 (limb 1 Z), .int .u64 (limb 2 Z), .int .u64 (limb 3 Z)] 64))) := bAlloc (Below.refl _ _) _
 have HN : Hid (uN O = 0) := by
  show uN O = 0
  unfold uN
  rw [if_neg (by omega), if_neg (by omega)]
 have g5 : (O == 5) = false := by simpa using h5
 have g8 : (O == 8) = false := by simpa using h8
 have g6 : (O == 6) = false := by simpa using h6
 have g7 : (O == 7) = false := by simpa using h7
 go_enter Tryz.func120, Tryz.ntmps120
 go_wp2
 go_ret
 exact ⟨⟨_, rfl, by rw [HN.out]; exact Or.inl ⟨rfl, rfl⟩⟩, HB.out⟩
end Go.Proofs.YtgkfjpbgdhmhmaaGreatDoor
namespace Go.Proofs.YtgkfjpbgdhmhmaaGreatDoor
open Go.RowKit
theorem ordB_false {n : Nat} {T : Nat -> Int × Int × Int × Nat} {k : Nat} (hk : k < n) (h : okN (T k) k = false) : ordB n T = false :=
 decide_eq_false (fun a => by rw [a k hk] at h; cases h)
set_option maxRecDepth 100000 in
theorem rordered_any (n cn : Nat) (oa : Option Addr) (T : Nat -> Int × Int × Int × Nat) (hn : n <= 1000000) (w : World) (hv : Rs w (.slice oa n cn) 7 n (fun i => nC (T i))) :
  Calls Tryz.prog 93 #[.slice oa n cn] w fun e w' => e = .returned (.bool (ordB n T)) /\ Below w.heap.size w w' := by
 have HR : Hid (Rs w (.slice oa n cn) 7 n (fun i => nC (T i))) := hv
 clear hv
 go_enter Tryz.func93, Tryz.ntmps93
 go_wp2
 go_loopw [3] (fun iv wr => ∃ k : Nat, iv = .int .i64 (k : Int) /\ k <= n /\ Below w.heap.size w wr /\ Hid (∀ i, i < k -> okN (T i) i = true)) (fun iv _ => n - (intOf iv).toNat)
 case atStart => exact ⟨0, rfl, Nat.zero_le _, Below.refl _ _, fun i hi => by omega⟩
 case round =>
  obtain ⟨k, rfl, hk, hbr, HALL⟩ := hrel
  by_cases hlt : k < n
  ·have hki : (k : Int) < (n : Int) := by omega
   have hk0 : (0 : Int) <= (k : Int) := by omega
   rcases HR.out with ⟨_, h0⟩ | ⟨ab, ao, c', hv, _, _, lab, hcell⟩
   ·omega
   cases hv
   obtain ⟨O, A, B, V, hE⟩ : ∃ O A B V, T k = (O, A, B, V) := ⟨_, _, _, _, rfl⟩
   have ca : ∀ j, j < 7 -> wr.cell? ⟨ab, ao + k * 7 + j, none⟩ = some (nC (T k) j) := fun j hj => by rw [hbr.cell (p := ⟨ab, ao + k * 7 + j, none⟩) lab]; exact hcell k hlt j hj
   rw [hE] at ca
   have HE : Hid (T k = (O, A, B, V)) := hE
   obtain ⟨t0, t1, t2, t3, t4, t5, t6⟩ := nC_cells O A B V
   have a0 := ca 0 (by decide); have a1 := ca 1 (by decide); have a2 := ca 2 (by decide); have a3 := ca 3 (by decide); have a4 := ca 4 (by decide); have a5 := ca 5 (by decide); have a6 := ca 6 (by decide)
   rw [t0] at a0; rw [t1] at a1; rw [t2] at a2; rw [t3] at a3; rw [t4] at a4; rw [t5] at a5; rw [t6] at a6
   rw [Nat.add_zero] at a0
   have HBR : Hid (Below w.heap.size w wr) := hbr
   clear ca t0 t1 t2 t3 t4 t5 t6 hE lab hcell hbr
   by_cases h1 : O < 1
   ·have HO : Hid (ordB n T = false) := ordB_false hlt (by rw [HE.out]; unfold okN; rw [show okO O = false from decide_eq_false (by omega)]; rfl)
    go_wp2
    go_ret
    exact ⟨by rw [HO.out]; rfl, HBR.out⟩
   by_cases h8 : 8 < O
   ·have HO : Hid (ordB n T = false) := ordB_false hlt (by rw [HE.out]; unfold okN; rw [show okO O = false from decide_eq_false (by omega)]; rfl)
    have h1' : 1 <= O := by omega
    go_wp2
    go_ret
    exact ⟨by rw [HO.out]; rfl, HBR.out⟩
   have h1' : 1 <= O := by omega
   have h8' : O <= 8 := by omega
   have HU : Hid (Calls _ _ _ _ _) := ruses_any O A B V wr
   go_wp2_with fail
   refine Calls.mono HU.out ?_
   rintro e w1 ⟨⟨uv, rfl, hz⟩, hb1⟩
   obtain ⟨ou, cu, hsh⟩ := Rs.shape hz
   subst hsh
   have HB1 : Hid (Below w.heap.size w w1) := bStep HBR.out hb1
   have HZ : Hid (Zs w1 (.slice ou (uN O) cu) (uN O) (uF A B)) := hz
   obtain ⟨U, eU⟩ := lv (uN O)
   rw [<- eU] at HZ ⊢
   have HUE : Hid (U = uN O) := eU
   have hU : U <= 2 := by rw [eU]; unfold uN; split; decide; split <;> decide
   clear hz hb1 HU eU a0 a1 a2 a3 a4 a5 a6
   go_wp2
   go_loop [5] (fun iv => ∃ j : Nat, iv = .int .i64 (j : Int) /\ j <= U /\ Hid (∀ q, q < j -> 0 <= uF A B q /\ uF A B q < (k : Int))) (fun iv => U - (intOf iv).toNat)
   case atStart => exact ⟨0, rfl, Nat.zero_le _, fun q hq => by omega⟩
   case round =>
    obtain ⟨j, rfl, hj, HJ⟩ := hrel
    by_cases hjl : j < U
    ·have hji : (j : Int) < (U : Int) := by omega
     have hj0 : (0 : Int) <= (j : Int) := by omega
     rcases HZ.out with ⟨_, h0⟩ | ⟨ub, uo, c', hv, _, _, _, hcell⟩
     ·omega
     cases hv
     have z0 := hcell j hjl 0 (by decide)
     dsimp only at z0
     rw [Nat.add_zero, Nat.mul_one] at z0
     obtain ⟨y, ey⟩ := lv (uF A B j)
     rw [<- ey] at z0
     have HY : Hid (y = uF A B j) := ey
     clear hcell ey
     have HBAD : Hid (¬ (0 <= y /\ y < (k : Int)) -> ordB n T = false) := fun hb => ordB_false hlt (by
      rw [HE.out]
      refine Bool.eq_false_iff.mpr (fun ho => ?_)
      unfold okN at ho
      rw [Bool.and_eq_true] at ho
      have h3 := of_decide_eq_true ho.2 j (by rw [<- HUE.out]; exact hjl)
      rw [HY.out] at hb
      exact hb h3)
     by_cases hy0 : y < 0
     ·have HO : Hid (ordB n T = false) := HBAD.out (by omega)
      go_wp2
      go_ret
      exact ⟨by rw [HO.out]; rfl, HB1.out⟩
     by_cases hyk : (k : Int) <= y
     ·have HO : Hid (ordB n T = false) := HBAD.out (by omega)
      go_wp2
      go_ret
      exact ⟨by rw [HO.out]; rfl, HB1.out⟩
     have hyk' : y < (k : Int) := by omega
     have hy0' : 0 <= y := by omega
     have HJ1 : Hid (∀ q, q < j + 1 -> 0 <= uF A B q /\ uF A B q < (k : Int)) := fun q hq => by
      rcases Nat.lt_or_ge q j with h | h
      ·exact HJ.out q h
      ·rw [show q = j by omega, <- HY.out]; exact ⟨hy0', hyk'⟩
     go_wp2
     go_round
     case measure => simp [intOf]; omega
     case rel => exact ⟨j + 1, by go_num, hjl, HJ1⟩
    ·have hji : ¬ (j : Int) < (U : Int) := by omega
     have HA : Hid (∀ i, i < k + 1 -> okN (T i) i = true) := fun i hi => by
      rcases Nat.lt_or_ge i k with h | h
      ·exact HALL.out i h
      ·rw [show i = k by omega, HE.out]
       unfold okN
       rw [Bool.and_eq_true]
       exact ⟨decide_eq_true ⟨h1', h8'⟩, decide_eq_true (fun q hq => HJ.out q (by rw [<- HUE.out] at hq; omega))⟩
     go_wp2
     go_roundw
     case measure => simp [intOf]; omega
     case rel => exact ⟨k + 1, by go_num, hlt, HB1.out, HA⟩
  ·have hki : ¬ (k : Int) < (n : Int) := by omega
   have ek : k = n := by omega
   have HO : Hid (ordB n T = true) := decide_eq_true (fun i hi => HALL.out i (by omega))
   have HBR : Hid (Below w.heap.size w wr) := hbr
   clear hbr ek
   go_wp2
   go_ret
   exact ⟨by rw [HO.out]; rfl, HBR.out⟩
end Go.Proofs.YtgkfjpbgdhmhmaaGreatDoor
namespace Go.Proofs.YtgkfjpbgdhmhmaaGreatDoor
open Go.RowKit
set_option maxRecDepth 100000 in
theorem sameI_any (n : Nat) (u v : Value) (f : Nat -> Int) (hn : n <= 17592186044416) (w : World) (hu : Zq w u n f) (hv : Zq w v n f) :
  Calls Tryz.prog 37 #[u, v] w fun e w' => e = .returned (.bool true) /\ Below w.heap.size w w' := by
 obtain ⟨oa, ca, rfl⟩ := hu.shape
 obtain ⟨ob, cb, rfl⟩ := hv.shape
 have HU : Hid (Zq w (.slice oa n ca) n f) := hu
 have HV : Hid (Zq w (.slice ob n cb) n f) := hv
 clear hu hv
 go_enter Tryz.func37, Tryz.ntmps37
 go_wp2
 go_loopw [5] (fun iv wr => ∃ j : Nat, iv = .int .i64 (j : Int) /\ j <= n /\ Below w.heap.size w wr) (fun iv _ => n - (intOf iv).toNat)
 case atStart => exact ⟨0, rfl, Nat.zero_le _, Below.refl _ _⟩
 case round =>
  obtain ⟨j, rfl, hj, hbr⟩ := hrel
  by_cases hlt : j < n
  ·have hji : (j : Int) < (n : Int) := by omega
   have hj0 : (0 : Int) <= (j : Int) := by omega
   rcases HU.out.below hbr with hz | ⟨h0, _⟩
   rotate_left
   ·omega
   rcases HV.out.below hbr with hy | ⟨h0, _⟩
   rotate_left
   ·omega
   rcases hz with ⟨_, h0⟩ | ⟨ab, ao, c', hv, _, _, lab, hcell⟩
   ·omega
   cases hv
   rcases hy with ⟨_, h0⟩ | ⟨bb, bo, c'', hv, _, _, lbb, hcell'⟩
   ·omega
   cases hv
   have a0 := hcell j hlt 0 (by decide); have b0 := hcell' j hlt 0 (by decide)
   dsimp only at a0 b0
   rw [Nat.add_zero, Nat.mul_one] at a0 b0
   obtain ⟨y, ey⟩ := lv (f j)
   rw [<- ey] at a0 b0
   have HBR : Hid (Below w.heap.size w wr) := hbr
   have HLA : Hid (ab < wr.heap.size /\ bb < wr.heap.size) := ⟨lab, lbb⟩
   clear hcell hcell' ey hbr lab lbb
   go_upto_region 6 with fail
   refine wp_region_Z (fun w' => w'.cell? ⟨ab, ao + j, none⟩ = some (.int .i64 y) /\ w'.cell? ⟨bb, bo + j, none⟩ = some (.int .i64 y)) 9 (by kernel_rfl) ?_
   obtain ⟨wD, hD⟩ := lv (wr.drew)
   rw [<- hD]
   have hp : wD.cell? ⟨ab, ao + j, none⟩ = some (.int .i64 y) /\ wD.cell? ⟨bb, bo + j, none⟩ = some (.int .i64 y) := by rw [hD]; exact ⟨a0, b0⟩
   have HBD : Hid (Below w.heap.size w wD) := by rw [hD]; exact bStep HBR.out (Below.refl _ _).drew
   clear hD a0 b0
   refine zs 0 17 (.slice (some ⟨ab, ao, none⟩) n ca) hp ?_
   refine zs 1 18 (.int .i64 (j : Int)) hp ?_
   refine zs 2 19 (.pointer (some ⟨ab, ao + j, none⟩)) hp ?_
   refine zT 3 20 (.int .i64 y) rfl rfl (fun w hSw => by obtain ⟨s1, s2⟩ := hSw; go_simp) hp ?_
   refine zs 4 21 (.slice (some ⟨bb, bo, none⟩) n cb) hp ?_
   refine zs 5 22 (.int .i64 (j : Int)) hp ?_
   refine zs 6 23 (.pointer (some ⟨bb, bo + j, none⟩)) hp ?_
   refine zT 7 24 (.int .i64 y) rfl rfl (fun w hSw => by obtain ⟨s1, s2⟩ := hSw; go_simp) hp ?_
   refine zs 8 25 (.bool false) hp ?_
   refine zd ?_ _
   clear hp
   go_wp2
   go_roundw
   case measure => simp [intOf]; omega
   case rel => exact ⟨j + 1, by go_num, hlt, HBD.out⟩
  ·have hji : ¬ (j : Int) < (n : Int) := by omega
   have HBR : Hid (Below w.heap.size w wr) := hbr
   clear hbr
   go_wp2
   go_ret
   exact ⟨rfl, HBR.out⟩
end Go.Proofs.YtgkfjpbgdhmhmaaGreatDoor
