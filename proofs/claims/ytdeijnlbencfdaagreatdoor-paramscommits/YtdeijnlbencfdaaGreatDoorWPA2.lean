import Derived.Test.YtdeijnlbencfdaaGreatDoorWPA1
import Derived.Test.YtdeijnlbencfdaaGreatDoorWBE
set_option maxHeartbeats 8000000
namespace Go.Proofs.YtdeijnlbencfdaaGreatDoor
open Go.RowKit
abbrev pA (C K : Int) (g : Value) (A B : Nat × Nat × Bool) : Obj := .cells #[.int .i64 C, .int .i64 K, g, .int .u64 (limb 0 A.1), .int .u64 (limb 1 A.1), .int .u64 (limb 2 A.1), .int .u64 (limb 3 A.1), .int .u64 (limb 0 A.2.1), .int .u64 (limb 1 A.2.1), .int .u64 (limb 2 A.2.1), .int .u64 (limb 3 A.2.1), .bool A.2.2, .int .u64 (limb 0 B.1), .int .u64 (limb 1 B.1), .int .u64 (limb 2 B.1), .int .u64 (limb 3 B.1), .int .u64 (limb 0 B.2.1), .int .u64 (limb 1 B.2.1), .int .u64 (limb 2 B.2.1), .int .u64 (limb 3 B.2.1), .bool B.2.2] 29
abbrev zA : Obj := .cells #[.int .i64 0, .int .i64 0, .slice none 0 0, .int .u64 0, .int .u64 0, .int .u64 0, .int .u64 0, .int .u64 0, .int .u64 0, .int .u64 0, .int .u64 0, .bool false, .int .u64 0, .int .u64 0, .int .u64 0, .int .u64 0, .int .u64 0, .int .u64 0, .int .u64 0, .int .u64 0, .bool false] 29
abbrev qA (X Y : Nat) (I : Bool) : Obj := .cells #[.int .u64 (limb 0 X), .int .u64 (limb 1 X), .int .u64 (limb 2 X), .int .u64 (limb 3 X), .int .u64 (limb 0 Y), .int .u64 (limb 1 Y), .int .u64 (limb 2 Y), .int .u64 (limb 3 Y), .bool I] 27
abbrev tA (K X Y : Nat) (I : Bool) : Obj := .cells #[.int .u64 (limb 0 K), .int .u64 (limb 1 K), .int .u64 (limb 2 K), .int .u64 (limb 3 K), .int .u64 (limb 0 X), .int .u64 (limb 1 X), .int .u64 (limb 2 X), .int .u64 (limb 3 X), .int .u64 (limb 0 Y), .int .u64 (limb 1 Y), .int .u64 (limb 2 Y), .int .u64 (limb 3 Y), .bool I] 56
def Par (w : World) (N : Nat) (C K : Int) (g : Value) (A B : Nat × Nat × Bool) : Prop := w.heap[N]? = some (.cells #[.int .i64 C, .int .i64 K, g, .int .u64 (limb 0 A.1), .int .u64 (limb 1 A.1), .int .u64 (limb 2 A.1), .int .u64 (limb 3 A.1), .int .u64 (limb 0 A.2.1), .int .u64 (limb 1 A.2.1), .int .u64 (limb 2 A.2.1), .int .u64 (limb 3 A.2.1), .bool A.2.2, .int .u64 (limb 0 B.1), .int .u64 (limb 1 B.1), .int .u64 (limb 2 B.1), .int .u64 (limb 3 B.1), .int .u64 (limb 0 B.2.1), .int .u64 (limb 1 B.2.1), .int .u64 (limb 2 B.2.1), .int .u64 (limb 3 B.2.1), .bool B.2.2] 29)
section
variable {w w' : World} {N : Nat} {C K : Int} {g : Value} {A B : Nat × Nat × Bool}
theorem Par.lt (h : Par w N C K g A B) : N < w.heap.size := (Array.getElem?_eq_some_iff.1 h).1
theorem Par.c0 (h : Par w N C K g A B) : w.cell? ⟨N, 0, none⟩ = some (.int .i64 C) := by unfold Par at h; simp [World.cell?, h]
theorem Par.c1 (h : Par w N C K g A B) : w.cell? ⟨N, 1, none⟩ = some (.int .i64 K) := by unfold Par at h; simp [World.cell?, h]
theorem Par.c2 (h : Par w N C K g A B) : w.cell? ⟨N, 2, none⟩ = some g := by unfold Par at h; simp [World.cell?, h]
theorem Par.cA (h : Par w N C K g A B) : w.cell? ⟨N, 3, none⟩ = some (.int .u64 (limb 0 A.1)) ∧ w.cell? ⟨N, 4, none⟩ = some (.int .u64 (limb 1 A.1)) ∧ w.cell? ⟨N, 5, none⟩ = some (.int .u64 (limb 2 A.1)) ∧ w.cell? ⟨N, 6, none⟩ = some (.int .u64 (limb 3 A.1)) ∧ w.cell? ⟨N, 7, none⟩ = some (.int .u64 (limb 0 A.2.1)) ∧ w.cell? ⟨N, 8, none⟩ = some (.int .u64 (limb 1 A.2.1)) ∧ w.cell? ⟨N, 9, none⟩ = some (.int .u64 (limb 2 A.2.1)) ∧ w.cell? ⟨N, 10, none⟩ = some (.int .u64 (limb 3 A.2.1)) ∧ w.cell? ⟨N, 11, none⟩ = some (.bool A.2.2) := by
 unfold Par at h
 exact ⟨by simp [World.cell?, h], by simp [World.cell?, h], by simp [World.cell?, h], by simp [World.cell?, h], by simp [World.cell?, h], by simp [World.cell?, h], by simp [World.cell?, h], by simp [World.cell?, h], by simp [World.cell?, h]⟩
theorem Par.cB (h : Par w N C K g A B) : w.cell? ⟨N, 12, none⟩ = some (.int .u64 (limb 0 B.1)) ∧ w.cell? ⟨N, 13, none⟩ = some (.int .u64 (limb 1 B.1)) ∧ w.cell? ⟨N, 14, none⟩ = some (.int .u64 (limb 2 B.1)) ∧ w.cell? ⟨N, 15, none⟩ = some (.int .u64 (limb 3 B.1)) ∧ w.cell? ⟨N, 16, none⟩ = some (.int .u64 (limb 0 B.2.1)) ∧ w.cell? ⟨N, 17, none⟩ = some (.int .u64 (limb 1 B.2.1)) ∧ w.cell? ⟨N, 18, none⟩ = some (.int .u64 (limb 2 B.2.1)) ∧ w.cell? ⟨N, 19, none⟩ = some (.int .u64 (limb 3 B.2.1)) ∧ w.cell? ⟨N, 20, none⟩ = some (.bool B.2.2) := by
 unfold Par at h
 exact ⟨by simp [World.cell?, h], by simp [World.cell?, h], by simp [World.cell?, h], by simp [World.cell?, h], by simp [World.cell?, h], by simp [World.cell?, h], by simp [World.cell?, h], by simp [World.cell?, h], by simp [World.cell?, h]⟩
theorem Par.frozen (h : Par w N C K g A B) : ∀ o, w.frozen? ⟨N, o, none⟩ = false := fun o => by unfold Par at h; simp [World.frozen?, h]
theorem Par.belowAll (h : Par w N C K g A B) (hb : Below w.heap.size w w') : Par w' N C K g A B := by unfold Par; rw [hb.block N h.lt]; exact h
theorem Par.drew (h : Par w N C K g A B) : Par w.drew N C K g A B := h
theorem Par.newAt (w : World) (N : Nat) (C K : Int) (g : Value) (A B : Nat × Nat × Bool) (h : N = w.heap.size) : Par (w.alloc (.cells #[.int .i64 C, .int .i64 K, g, .int .u64 (limb 0 A.1), .int .u64 (limb 1 A.1), .int .u64 (limb 2 A.1), .int .u64 (limb 3 A.1), .int .u64 (limb 0 A.2.1), .int .u64 (limb 1 A.2.1), .int .u64 (limb 2 A.2.1), .int .u64 (limb 3 A.2.1), .bool A.2.2, .int .u64 (limb 0 B.1), .int .u64 (limb 1 B.1), .int .u64 (limb 2 B.1), .int .u64 (limb 3 B.1), .int .u64 (limb 0 B.2.1), .int .u64 (limb 1 B.2.1), .int .u64 (limb 2 B.2.1), .int .u64 (limb 3 B.2.1), .bool B.2.2] 29)) N C K g A B := by rw [h]; exact new_blockQ _ _
end
abbrev gen (c : Nat) (T : Nat × Nat × Bool) : Prop := onC c T.1 T.2.1 T.2.2 ∧ T.2.2 = false
def okB (c k n : Nat) (G : Nat → Nat × Nat × Bool) (A B : Nat × Nat × Bool) : Bool := decide (n = 2 ^ k) && (decide (∀ i, i < n → gen c (G i)) && (decide (gen c A) && decide (gen c B)))
def errP (b : Bool) : Int := if b = true then 0 else 90
theorem pisC_in (c : Nat) (hc : c < 4) (w : World) (hg : GlobC w) : Calls Tryz.prog 45 #[.int .i64 (c : Int)] w fun e w' => e = .returned (.bool true) ∧ Below w.heap.size w w' := by
 have HG : Hid (GlobC w) := hg
 have HC : Hid (c < 4) := hc
 clear hg hc
 go_enter Tryz.func45, Tryz.ntmps45
 go_wp2_with fail
 refine (infinity_any w).mono ?_
 rintro e w1 ⟨rfl, hb1⟩
 go_wp2_with fail
 refine (on_in c 0 0 true HC.out (by decide) (by decide) w1 (HG.out.below hb1)).mono ?_
 rintro e w2 ⟨rfl, hb2⟩
 rw [decide_eq_true (show onC c 0 0 true from Or.inl ⟨rfl, rfl, rfl⟩)]
 go_wp2
 go_ret
 exact ⟨rfl, bStep hb1 hb2⟩
theorem pisC_out (C : Int) (hc : C < 0 ∨ 4 ≤ C) (w : World) : Calls Tryz.prog 45 #[.int .i64 C] w fun e w' => e = .returned (.bool false) ∧ Below w.heap.size w w' := by
 have HC : Hid (C < 0 ∨ 4 ≤ C) := hc
 clear hc
 go_enter Tryz.func45, Tryz.ntmps45
 go_wp2_with fail
 refine (infinity_any w).mono ?_
 rintro e w1 ⟨rfl, hb1⟩
 go_wp2_with fail
 refine (on_out C HC.out 0 0 true w1).mono ?_
 rintro e w2 ⟨rfl, hb2⟩
 go_wp2
 go_ret
 exact ⟨rfl, bStep hb1 hb2⟩
theorem chkZ_c (C K : Int) (hc : C < 0 ∨ 4 ≤ C) (w : World) : Calls Tryz.prog 22 #[.int .i64 C, .int .i64 K] w fun e w' => e = .returned (.int .i64 40) ∧ Below w.heap.size w w' := by
 have HC : Hid (C < 0 ∨ 4 ≤ C) := hc
 clear hc
 go_enter Tryz.func22, Tryz.ntmps22
 go_wp2_with fail
 refine (pisC_out C HC.out w).mono ?_
 rintro e w1 ⟨rfl, hb1⟩
 go_wp2
 go_ret
 exact ⟨rfl, hb1⟩
theorem chkZ_k (c : Nat) (K : Int) (hc : c < 4) (hk : K < 0 ∨ 5 < K) (w : World) (hg : GlobC w) : Calls Tryz.prog 22 #[.int .i64 (c : Int), .int .i64 K] w fun e w' => e = .returned (.int .i64 60) ∧ Below w.heap.size w w' := by
 have HG : Hid (GlobC w) := hg
 have HC : Hid (c < 4) := hc
 clear hc hg
 rcases hk with hk | hk
 ·go_enter Tryz.func22, Tryz.ntmps22
  go_wp2_with fail
  refine (pisC_in c HC.out w HG.out).mono ?_
  rintro e w1 ⟨rfl, hb1⟩
  go_wp2
  go_ret
  exact ⟨rfl, hb1⟩
 ·have hk0 : ¬ K < 0 := by omega
  go_enter Tryz.func22, Tryz.ntmps22
  go_wp2_with fail
  refine (pisC_in c HC.out w HG.out).mono ?_
  rintro e w1 ⟨rfl, hb1⟩
  go_wp2
  go_ret
  exact ⟨rfl, hb1⟩
theorem chkZ_in (c k : Nat) (hc : c < 4) (hk : k ≤ 5) (w : World) (hg : GlobC w) : Calls Tryz.prog 22 #[.int .i64 (c : Int), .int .i64 (k : Int)] w fun e w' => e = .returned (.int .i64 0) ∧ Below w.heap.size w w' := by
 have HG : Hid (GlobC w) := hg
 have HC : Hid (c < 4) := hc
 have hk0 : ¬ (k : Int) < 0 := by omega
 have hk5 : ¬ (5 : Int) < (k : Int) := by omega
 clear hc hg hk
 go_enter Tryz.func22, Tryz.ntmps22
 go_wp2_with fail
 refine (pisC_in c HC.out w HG.out).mono ?_
 rintro e w1 ⟨rfl, hb1⟩
 go_wp2
 go_ret
 exact ⟨rfl, hb1⟩
theorem gen_not (c n : Nat) (G : Nat → Nat × Nat × Bool) (k : Nat) (hk : k < n) (h : ¬ gen c (G k)) : decide (∀ i, i < n → gen c (G i)) = false := decide_eq_false (fun a => h (a k hk))
theorem inf_cells (a : Nat) (ea : a = 0) : (.agg #[.int .u64 (limb 0 0), .int .u64 (limb 1 0), .int .u64 (limb 2 0), .int .u64 (limb 3 0), .int .u64 (limb 0 0), .int .u64 (limb 1 0), .int .u64 (limb 2 0), .int .u64 (limb 3 0), .bool true] : Value) = .agg #[.int .u64 (limb 0 a), .int .u64 (limb 1 a), .int .u64 (limb 2 a), .int .u64 (limb 3 a), .int .u64 (limb 0 a), .int .u64 (limb 1 a), .int .u64 (limb 2 a), .int .u64 (limb 3 a), .bool true] := by subst ea; rfl
set_option maxRecDepth 20000 in
theorem areGen_some (c n cn ab ao : Nat) (G : Nat → Nat × Nat × Bool) (hc : c < 4) (hn : n ≤ 1000000) (hM : ∀ i, i < n → (G i).1 < mM ∧ (G i).2.1 < mM) (w : World) (hg : GlobC w) (hab : ab < w.heap.size) (hcell : ∀ i, i < n → ∀ j, j < 9 → w.cell? ⟨ab, ao + i * 9 + j, none⟩ = some (pC (G i) j)) :
  Calls Tryz.prog 23 #[.int .i64 (c : Int), .slice (some ⟨ab, ao, none⟩) n cn] w fun e w' => e = .returned (.bool (decide (∀ i, i < n → gen c (G i)))) ∧ Below w.heap.size w w' := by
 have HG : Hid (GlobC w) := hg
 have HC : Hid (c < 4) := hc
 have HM : Hid (∀ i, i < n → (G i).1 < mM ∧ (G i).2.1 < mM) := hM
 have HAB : Hid (ab < w.heap.size) := hab
 have HCL : Hid (∀ i, i < n → ∀ j, j < 9 → w.cell? ⟨ab, ao + i * 9 + j, none⟩ = some (pC (G i) j)) := hcell
 obtain ⟨bA, ebA⟩ : ∃ b, b = decide (∀ i, i < n → gen c (G i)) := ⟨_, rfl⟩
 rw [← ebA]
 have HBA : Hid (bA = decide (∀ i, i < n → gen c (G i))) := ebA
 clear hg hc hM hab hcell ebA
 go_enter Tryz.func23, Tryz.ntmps23
 go_wp2
 go_loopw [9] (fun iv wr => ∃ k : Nat, iv = .int .i64 (k : Int) ∧ k ≤ n ∧ Hid (∀ i, i < k → gen c (G i)) ∧ Below w.heap.size w wr) (fun iv _ => n - (intOf iv).toNat)
 case atStart => exact ⟨0, rfl, Nat.zero_le _, fun i hi => by omega, Below.refl _ _⟩
 case round =>
  obtain ⟨k, rfl, hk, HALL, hbr⟩ := hrel
  by_cases hlt : k < n
  ·have hki : (k : Int) < (n : Int) := by omega
   have hk0 : (0 : Int) ≤ (k : Int) := by omega
   have hTE : ∃ X Y I, G k = (X, Y, I) := ⟨_, _, _, rfl⟩
   obtain ⟨X, Y, I, hE⟩ := hTE
   have ca := fun j hj => (hbr.cell (p := ⟨ab, ao + k * 9 + j, none⟩) HAB.out).trans (HCL.out k hlt j hj)
   have hXY := HM.out k hlt
   rw [hE] at ca hXY
   have HXM : Hid (X < mM ∧ Y < mM) := hXY
   have HEK : Hid (G k = (X, Y, I)) := hE
   obtain ⟨t0, t1, t2, t3, t4, t5, t6, t7, t8⟩ := pC_cells X Y I
   have a0 := ca 0 (by decide)
   rw [t0] at a0
   have a1 := ca 1 (by decide)
   rw [t1] at a1
   have a2 := ca 2 (by decide)
   rw [t2] at a2
   have a3 := ca 3 (by decide)
   rw [t3] at a3
   have a4 := ca 4 (by decide)
   rw [t4] at a4
   have a5 := ca 5 (by decide)
   rw [t5] at a5
   have a6 := ca 6 (by decide)
   rw [t6] at a6
   have a7 := ca 7 (by decide)
   rw [t7] at a7
   have a8 := ca 8 (by decide)
   rw [t8] at a8
   clear ca t0 t1 t2 t3 t4 t5 t6 t7 t8 hE hXY
   rw [Nat.add_zero] at a0
   have hbe : Below wr.heap.size wr (wr.alloc (.cells #[.int .u64 (limb 0 X), .int .u64 (limb 1 X), .int .u64 (limb 2 X), .int .u64 (limb 3 X), .int .u64 (limb 0 Y), .int .u64 (limb 1 Y), .int .u64 (limb 2 Y), .int .u64 (limb 3 Y), .bool I] 27)) := bAlloc (Below.refl _ _) _
   have hbt : Pt (wr.alloc (.cells #[.int .u64 (limb 0 X), .int .u64 (limb 1 X), .int .u64 (limb 2 X), .int .u64 (limb 3 X), .int .u64 (limb 0 Y), .int .u64 (limb 1 Y), .int .u64 (limb 2 Y), .int .u64 (limb 3 Y), .bool I] 27)) wr.heap.size X Y I := Pt.newAt _ _ _ _ _ rfl
   go_upto_region 4 with fail
   obtain ⟨N6, e6⟩ : ∃ N, N = wr.heap.size := ⟨_, rfl⟩
   obtain ⟨w1, hw1⟩ : ∃ z : World, z = wr.alloc (.cells #[.int .u64 (limb 0 X), .int .u64 (limb 1 X), .int .u64 (limb 2 X), .int .u64 (limb 3 X), .int .u64 (limb 0 Y), .int .u64 (limb 1 Y), .int .u64 (limb 2 Y), .int .u64 (limb 3 Y), .bool I] 27) := ⟨_, rfl⟩
   have b61 : Pt w1 N6 X Y I := by rw [hw1, e6]; exact hbt
   have hbr1 : Below w.heap.size w w1 := by rw [hw1]; exact bStep hbr hbe
   rw [← hw1, ← e6]
   clear hw1 e6 hbt hbe a0 a1 a2 a3 a4 a5 a6 a7 a8 hbr
   by_cases hon : onC c X Y I
   ·have HON : Hid (∀ w, GlobC w → Calls Tryz.prog 33 #[.int .i64 (c : Int), .agg #[.int .u64 (limb 0 X), .int .u64 (limb 1 X), .int .u64 (limb 2 X), .int .u64 (limb 3 X), .int .u64 (limb 0 Y), .int .u64 (limb 1 Y), .int .u64 (limb 2 Y), .int .u64 (limb 3 Y), .bool I]] w fun e w' => e = .returned (.bool true) ∧ Below w.heap.size w w') := fun w hg => by
     have h := on_in c X Y I HC.out HXM.out.1 HXM.out.2 w hg
     rw [decide_eq_true hon] at h
     exact h
    obtain ⟨zA, ez⟩ : ∃ z, z = 0 := ⟨_, rfl⟩
    have ezA := inf_cells zA ez
    cases hI : I with
    | true =>
     subst hI
     have HFALSE : Hid (bA = false) := HBA.out.trans (gen_not c n G k hlt (fun h => by rw [HEK.out] at h; cases h.2))
     have hz := on_inf hon
     have HEQ : Hid (∀ w, (binOp .eql 27 (.agg #[.int .u64 (limb 0 X), .int .u64 (limb 1 X), .int .u64 (limb 2 X), .int .u64 (limb 3 X), .int .u64 (limb 0 Y), .int .u64 (limb 1 Y), .int .u64 (limb 2 Y), .int .u64 (limb 3 Y), .bool true]) (.agg #[.int .u64 (limb 0 zA), .int .u64 (limb 1 zA), .int .u64 (limb 2 zA), .int .u64 (limb 3 zA), .int .u64 (limb 0 zA), .int .u64 (limb 1 zA), .int .u64 (limb 2 zA), .int .u64 (limb 3 zA), .bool true])).run Tryz.prog w = .ok (.bool true) w) := fun w => by
      have h := eqlP X Y zA zA true true HXM.out.1 HXM.out.2 (by rw [ez]; decide) (by rw [ez]; decide) w
      rw [decide_eq_true ⟨hz.1.trans ez.symm, hz.2.trans ez.symm, rfl⟩] at h
      exact h
     clear hon hz ez
     refine wp_region_Z (fun w' => Pt w' N6 X Y true) 99 (by kernel_rfl) ?_
     obtain ⟨wD, hD⟩ : ∃ x : World, x = w1.drew := ⟨_, rfl⟩
     rw [← hD]
     have hp0 : Pt wD N6 X Y true := by rw [hD]; exact b61.drew
     have hlow0 : Below w1.heap.size w1 wD := by rw [hD]; exact (Below.refl _ _).drew
     clear hD
     refine zs 0 13 (.int .i64 (c : Int)) hp0 ?_
     refine zT 1 14 (.agg #[.int .u64 (limb 0 X), .int .u64 (limb 1 X), .int .u64 (limb 2 X), .int .u64 (limb 3 X), .int .u64 (limb 0 Y), .int .u64 (limb 1 Y), .int .u64 (limb 2 Y), .int .u64 (limb 3 Y), .bool true]) rfl rfl (fun w hSw => by (obtain ⟨q0, q1, q2, q3, q4, q5, q6, q7, q8, qf⟩ := hSw.cells; clear hSw; go_simp)) hp0 ?_
     refine zo 2 rfl (fun K hK => ?_)
     go_simp
     refine (HON.out wD (HG.out.below (bStep hbr1 hlow0))).mono ?_
     rintro e w2 ⟨rfl, hb2⟩
     have hp2 := hp0.belowAll hb2; have hlow2 := bStep hlow0 hb2
     go_wp2_with fail
     refine hK.out _ _ (fun _ => hp2) ?_
     clear hK K
     refine zs 3 16 (.bool false) hp2 ?_
     refine zs 4 17 (.bool false) hp2 ?_
     refine zT 5 18 (.agg #[.int .u64 (limb 0 X), .int .u64 (limb 1 X), .int .u64 (limb 2 X), .int .u64 (limb 3 X), .int .u64 (limb 0 Y), .int .u64 (limb 1 Y), .int .u64 (limb 2 Y), .int .u64 (limb 3 Y), .bool true]) rfl rfl (fun w hSw => by (obtain ⟨q0, q1, q2, q3, q4, q5, q6, q7, q8, qf⟩ := hSw.cells; clear hSw; go_simp)) hp2 ?_
     refine zo 6 rfl (fun K hK => ?_)
     go_simp
     refine (infinity_any w2).mono ?_
     rintro e w3 ⟨rfl, hb3⟩
     have hp3 := hp2.belowAll hb3; have hlow3 := bStep hlow2 hb3
     rw [ezA]
     go_wp2_with fail
     refine hK.out _ _ (fun _ => hp3) ?_
     clear hK K
     refine zT 7 20 (.bool true) rfl rfl (fun w hSw => by (have qq := HEQ.out; clear hSw; go_simp)) hp3 ?_
     refine zs 8 21 (.bool true) hp3 ?_
     refine zd ?_ _
     have hbr2 := bStep hbr1 hlow3
     clear hp2 hp0 hlow0 hlow2 hb2 hp3 hlow3 hb3
     go_wp2
     go_ret
     exact ⟨by rw [HFALSE.out]; rfl, hbr2⟩
    | false =>
     subst hI
     have HNEXT : Hid (∀ i, i < k + 1 → gen c (G i)) := fun i hi => by
      rcases Nat.lt_or_ge i k with h | h
      ·exact HALL.out i h
      ·rw [show i = k by omega, HEK.out]; exact ⟨hon, rfl⟩
     have HEQ : Hid (∀ w, (binOp .eql 27 (.agg #[.int .u64 (limb 0 X), .int .u64 (limb 1 X), .int .u64 (limb 2 X), .int .u64 (limb 3 X), .int .u64 (limb 0 Y), .int .u64 (limb 1 Y), .int .u64 (limb 2 Y), .int .u64 (limb 3 Y), .bool false]) (.agg #[.int .u64 (limb 0 zA), .int .u64 (limb 1 zA), .int .u64 (limb 2 zA), .int .u64 (limb 3 zA), .int .u64 (limb 0 zA), .int .u64 (limb 1 zA), .int .u64 (limb 2 zA), .int .u64 (limb 3 zA), .bool true])).run Tryz.prog w = .ok (.bool false) w) := fun w => by
      have h := eqlP X Y zA zA false true HXM.out.1 HXM.out.2 (by rw [ez]; decide) (by rw [ez]; decide) w
      rw [decide_eq_false (fun h => by cases h.2.2)] at h
      exact h
     clear hon ez
     refine wp_region_Z (fun w' => Pt w' N6 X Y false) 99 (by kernel_rfl) ?_
     obtain ⟨wD, hD⟩ : ∃ x : World, x = w1.drew := ⟨_, rfl⟩
     rw [← hD]
     have hp0 : Pt wD N6 X Y false := by rw [hD]; exact b61.drew
     have hlow0 : Below w1.heap.size w1 wD := by rw [hD]; exact (Below.refl _ _).drew
     clear hD
     refine zs 0 13 (.int .i64 (c : Int)) hp0 ?_
     refine zT 1 14 (.agg #[.int .u64 (limb 0 X), .int .u64 (limb 1 X), .int .u64 (limb 2 X), .int .u64 (limb 3 X), .int .u64 (limb 0 Y), .int .u64 (limb 1 Y), .int .u64 (limb 2 Y), .int .u64 (limb 3 Y), .bool false]) rfl rfl (fun w hSw => by (obtain ⟨q0, q1, q2, q3, q4, q5, q6, q7, q8, qf⟩ := hSw.cells; clear hSw; go_simp)) hp0 ?_
     refine zo 2 rfl (fun K hK => ?_)
     go_simp
     refine (HON.out wD (HG.out.below (bStep hbr1 hlow0))).mono ?_
     rintro e w2 ⟨rfl, hb2⟩
     have hp2 := hp0.belowAll hb2; have hlow2 := bStep hlow0 hb2
     go_wp2_with fail
     refine hK.out _ _ (fun _ => hp2) ?_
     clear hK K
     refine zs 3 16 (.bool false) hp2 ?_
     refine zs 4 17 (.bool false) hp2 ?_
     refine zT 5 18 (.agg #[.int .u64 (limb 0 X), .int .u64 (limb 1 X), .int .u64 (limb 2 X), .int .u64 (limb 3 X), .int .u64 (limb 0 Y), .int .u64 (limb 1 Y), .int .u64 (limb 2 Y), .int .u64 (limb 3 Y), .bool false]) rfl rfl (fun w hSw => by (obtain ⟨q0, q1, q2, q3, q4, q5, q6, q7, q8, qf⟩ := hSw.cells; clear hSw; go_simp)) hp2 ?_
     refine zo 6 rfl (fun K hK => ?_)
     go_simp
     refine (infinity_any w2).mono ?_
     rintro e w3 ⟨rfl, hb3⟩
     have hp3 := hp2.belowAll hb3; have hlow3 := bStep hlow2 hb3
     rw [ezA]
     go_wp2_with fail
     refine hK.out _ _ (fun _ => hp3) ?_
     clear hK K
     refine zT 7 20 (.bool false) rfl rfl (fun w hSw => by (have qq := HEQ.out; clear hSw; go_simp)) hp3 ?_
     refine zs 8 21 (.bool false) hp3 ?_
     refine zd ?_ _
     have hbr2 := bStep hbr1 hlow3
     clear hp2 hp0 hlow0 hlow2 hb2 hp3 hlow3 hb3
     go_wp2
     go_roundw
     case measure => simp [intOf]; omega
     case rel => exact ⟨k + 1, by go_num, by omega, HNEXT, hbr2⟩
   ·have HON : Hid (∀ w, GlobC w → Calls Tryz.prog 33 #[.int .i64 (c : Int), .agg #[.int .u64 (limb 0 X), .int .u64 (limb 1 X), .int .u64 (limb 2 X), .int .u64 (limb 3 X), .int .u64 (limb 0 Y), .int .u64 (limb 1 Y), .int .u64 (limb 2 Y), .int .u64 (limb 3 Y), .bool I]] w fun e w' => e = .returned (.bool false) ∧ Below w.heap.size w w') := fun w hg => by
     have h := on_in c X Y I HC.out HXM.out.1 HXM.out.2 w hg
     rw [decide_eq_false hon] at h
     exact h
    have HFALSE : Hid (bA = false) := HBA.out.trans (gen_not c n G k hlt (fun h => by rw [HEK.out] at h; exact hon h.1))
    clear hon
    refine wp_region_Z (fun w' => Pt w' N6 X Y I) 99 (by kernel_rfl) ?_
    obtain ⟨wD, hD⟩ : ∃ x : World, x = w1.drew := ⟨_, rfl⟩
    rw [← hD]
    have hp0 : Pt wD N6 X Y I := by rw [hD]; exact b61.drew
    have hlow0 : Below w1.heap.size w1 wD := by rw [hD]; exact (Below.refl _ _).drew
    clear hD
    refine zs 0 13 (.int .i64 (c : Int)) hp0 ?_
    refine zT 1 14 (.agg #[.int .u64 (limb 0 X), .int .u64 (limb 1 X), .int .u64 (limb 2 X), .int .u64 (limb 3 X), .int .u64 (limb 0 Y), .int .u64 (limb 1 Y), .int .u64 (limb 2 Y), .int .u64 (limb 3 Y), .bool I]) rfl rfl (fun w hSw => by (obtain ⟨q0, q1, q2, q3, q4, q5, q6, q7, q8, qf⟩ := hSw.cells; clear hSw; go_simp)) hp0 ?_
    refine zo 2 rfl (fun K hK => ?_)
    go_simp
    refine (HON.out wD (HG.out.below (bStep hbr1 hlow0))).mono ?_
    rintro e w2 ⟨rfl, hb2⟩
    have hp2 := hp0.belowAll hb2; have hlow2 := bStep hlow0 hb2
    go_wp2_with fail
    refine hK.out _ _ (fun _ => hp2) ?_
    clear hK K
    refine zs 3 16 (.bool true) hp2 ?_
    refine zs 4 17 (.bool true) hp2 ?_
    refine zU 5 18 hp2 ?_
    refine zU 6 19 hp2 ?_
    refine zU 7 20 hp2 ?_
    refine zs 8 21 (.bool true) hp2 ?_
    refine zd ?_ _
    have hbr2 := bStep hbr1 hlow2
    clear hp2 hp0 hlow0 hlow2 hb2
    go_wp2
    go_ret
    exact ⟨by rw [HFALSE.out]; rfl, hbr2⟩
  ·have hki : ¬ (k : Int) < (n : Int) := by omega
   have HTRUE : Hid (bA = true) := HBA.out.trans (decide_eq_true (fun i hi => HALL.out i (by omega)))
   go_wp2
   go_ret
   exact ⟨by rw [HTRUE.out]; rfl, hbr⟩
theorem areGen_nil (c : Nat) (w : World) : Calls Tryz.prog 23 #[.int .i64 (c : Int), .slice none 0 0] w fun e w' => e = .returned (.bool true) ∧ Below w.heap.size w w' := by
 go_enter Tryz.func23, Tryz.ntmps23
 go_wp2
 go_loop [9] (fun i => i = .int .i64 0) (fun _ => 0)
 case atStart => rfl
 case round =>
  subst hrel
  go_wp2
  go_ret
  exact ⟨rfl, Below.refl _ _⟩
theorem areGen_any (c n : Nat) (v : Value) (G : Nat → Nat × Nat × Bool) (hc : c < 4) (hn : n ≤ 1000000) (hM : ∀ i, i < n → (G i).1 < mM ∧ (G i).2.1 < mM) (w : World) (hg : GlobC w) (hR : Rs w v 9 n (fun i => pC (G i))) :
  Calls Tryz.prog 23 #[.int .i64 (c : Int), v] w fun e w' => e = .returned (.bool (decide (∀ i, i < n → gen c (G i)))) ∧ Below w.heap.size w w' := by
 rcases hR with ⟨rfl, rfl⟩ | ⟨b, o, c', rfl, _, _, hb, hcell⟩
 ·refine (areGen_nil c w).mono ?_
  rintro e w' ⟨rfl, h⟩
  exact ⟨by rw [decide_eq_true (fun i hi => by omega)], h⟩
 ·exact areGen_some c n c' b o G hc hn hM w hg hb hcell
end Go.Proofs.YtdeijnlbencfdaaGreatDoor
