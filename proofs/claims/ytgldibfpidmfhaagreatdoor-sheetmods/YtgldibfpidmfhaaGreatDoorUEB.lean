/- (query).fits, the operations' degrees. -/
import Derived.Test.YtgldibfpidmfhaaGreatDoorUEA
import Derived.Deep.QuietTactic
import Derived.BigQuiet
import Derived.Deep.Draws
import Derived.Test.YtgldibfpidmfhaaGreatDoorUBE
namespace Go.Proofs.YtgldibfpidmfhaaGreatDoor
open Go.RowKit
def fitB (Col Rot n : Int) : Bool := decide (0 ≤ Col ∧ Col < n ∧ -3 ≤ Rot ∧ Rot ≤ 3)
set_option maxHeartbeats 8000000 in
set_option maxRecDepth 20000 in
theorem fits_any (Kd Col Rot n : Int) (w : World) : Calls Tryz.prog 119 #[.agg #[.int .i64 Kd, .int .i64 Col, .int .i64 Rot], .int .i64 n] w fun e w' => e = .returned (.bool (fitB Col Rot n)) ∧ Below w.heap.size w w' := by
  have HB : Hid (Below w.heap.size w (w.alloc (.cells #[.int .i64 Kd, .int .i64 Col, .int .i64 Rot] 151))) := bAlloc (Below.refl _ _) _
  obtain ⟨bA, ebA⟩ : ∃ b, b = fitB Col Rot n := ⟨_, rfl⟩
  rw [← ebA]
  have HBA : Hid (bA = decide (0 ≤ Col ∧ Col < n ∧ -3 ≤ Rot ∧ Rot ≤ 3)) := ebA
  clear ebA
  by_cases h0 : 0 ≤ Col
  · by_cases h1 : Col < n
    · by_cases h2 : -3 ≤ Rot
      · by_cases h3 : Rot ≤ 3
        · have HF : Hid (bA = true) := HBA.out.trans (decide_eq_true ⟨h0, h1, h2, h3⟩)
          go_enter Tryz.func119, Tryz.ntmps119
          go_wp2
          go_ret
          exact ⟨by rw [HF.out]; rfl, HB.out⟩
        · have HF : Hid (bA = false) := HBA.out.trans (decide_eq_false (fun h => h3 h.2.2.2))
          go_enter Tryz.func119, Tryz.ntmps119
          go_wp2
          go_ret
          exact ⟨by rw [HF.out]; rfl, HB.out⟩
      · have HF : Hid (bA = false) := HBA.out.trans (decide_eq_false (fun h => h2 h.2.2.1))
        go_enter Tryz.func119, Tryz.ntmps119
        go_wp2
        go_ret
        exact ⟨by rw [HF.out]; rfl, HB.out⟩
    · have HF : Hid (bA = false) := HBA.out.trans (decide_eq_false (fun h => h1 h.2.1))
      go_enter Tryz.func119, Tryz.ntmps119
      go_wp2
      go_ret
      exact ⟨by rw [HF.out]; rfl, HB.out⟩
  · have HF : Hid (bA = false) := HBA.out.trans (decide_eq_false (fun h => h0 h.1))
    go_enter Tryz.func119, Tryz.ntmps119
    go_wp2
    go_ret
    exact ⟨by rw [HF.out]; rfl, HB.out⟩
set_option maxHeartbeats 8000000 in
set_option maxRecDepth 20000 in
theorem deg_query (O A B : Int) (v : Value) (w : World) : Calls Tryz.prog 156 #[.agg #[.int .i64 O, .int .i64 A, .int .i64 B], v] w fun e w' => e = .returned (.int .i64 1) ∧ Below w.heap.size w w' := by
  have HB : Hid (∀ o, Below w.heap.size w (w.alloc o)) := fun o => bAlloc (Below.refl _ _) o
  go_enter Tryz.func156, Tryz.ntmps156
  go_wp2
  go_ret
  exact ⟨rfl, by first | exact Below.refl _ _ | exact HB.out _⟩
set_option maxHeartbeats 8000000 in
set_option maxRecDepth 20000 in
theorem deg_const (V : Nat) (v : Value) (w : World) : Calls Tryz.prog 161 #[.agg #[.int .u64 ((limb 0 V : Nat) : Int), .int .u64 ((limb 1 V : Nat) : Int), .int .u64 ((limb 2 V : Nat) : Int), .int .u64 ((limb 3 V : Nat) : Int)], v] w fun e w' => e = .returned (.int .i64 0) ∧ Below w.heap.size w w' := by
  have HB : Hid (∀ o, Below w.heap.size w (w.alloc o)) := fun o => bAlloc (Below.refl _ _) o
  go_enter Tryz.func161, Tryz.ntmps161
  go_wp2
  go_ret
  exact ⟨rfl, by first | exact Below.refl _ _ | exact HB.out _⟩
set_option maxHeartbeats 8000000 in
set_option maxRecDepth 20000 in
theorem deg_neg (a n : Nat) (v : Value) (f : Nat → Int) (ha : a < n) (w : World) (hv : Zs w v n f) : Calls Tryz.prog 163 #[.agg #[.int .i64 (a : Int)], v] w fun e w' => e = .returned (.int .i64 (f a)) ∧ Below w.heap.size w w' := by
  rcases hv with ⟨_, h0⟩ | ⟨ab, ao, c, rfl, _, _, lab, hcell⟩
  · omega
  have hai : (a : Int) < (n : Int) := by omega
  have ha0 : (0 : Int) ≤ (a : Int) := by omega
  obtain ⟨y, ey⟩ : ∃ y, y = f a := ⟨_, rfl⟩
  have HB : Hid (∀ o, Below w.heap.size w (w.alloc o)) := fun o => bAlloc (Below.refl _ _) o
  have a0 := (HB.out (.cells #[.int .i64 (a : Int)] 186)).cell (p := ⟨ab, ao + a * 1 + 0, none⟩) lab
  rw [hcell a ha 0 (by decide)] at a0
  dsimp only at a0
  rw [Nat.add_zero, Nat.mul_one, ← ey] at a0
  rw [← ey]
  clear hcell ey
  go_enter Tryz.func163, Tryz.ntmps163
  go_wp2
  go_ret
  exact ⟨rfl, HB.out _⟩
set_option maxHeartbeats 8000000 in
set_option maxRecDepth 20000 in
theorem deg_mul (a n : Nat) (V : Nat) (v : Value) (f : Nat → Int) (ha : a < n) (w : World) (hv : Zs w v n f) : Calls Tryz.prog 177 #[.agg #[.int .i64 (a : Int), .int .u64 ((limb 0 V : Nat) : Int), .int .u64 ((limb 1 V : Nat) : Int), .int .u64 ((limb 2 V : Nat) : Int), .int .u64 ((limb 3 V : Nat) : Int)], v] w fun e w' => e = .returned (.int .i64 (f a)) ∧ Below w.heap.size w w' := by
  rcases hv with ⟨_, h0⟩ | ⟨ab, ao, c, rfl, _, _, lab, hcell⟩
  · omega
  have hai : (a : Int) < (n : Int) := by omega
  have ha0 : (0 : Int) ≤ (a : Int) := by omega
  obtain ⟨y, ey⟩ : ∃ y, y = f a := ⟨_, rfl⟩
  have HB : Hid (∀ o, Below w.heap.size w (w.alloc o)) := fun o => bAlloc (Below.refl _ _) o
  have a0 := (HB.out (.cells #[.int .i64 (a : Int), .int .u64 ((limb 0 V : Nat) : Int), .int .u64 ((limb 1 V : Nat) : Int), .int .u64 ((limb 2 V : Nat) : Int), .int .u64 ((limb 3 V : Nat) : Int)] 191)).cell (p := ⟨ab, ao + a * 1 + 0, none⟩) lab
  rw [hcell a ha 0 (by decide)] at a0
  dsimp only at a0
  rw [Nat.add_zero, Nat.mul_one, ← ey] at a0
  rw [← ey]
  clear hcell ey
  go_enter Tryz.func177, Tryz.ntmps177
  go_wp2
  go_ret
  exact ⟨rfl, HB.out _⟩
end Go.Proofs.YtgldibfpidmfhaaGreatDoor

/- The degrees of sums and products. -/
namespace Go.Proofs.YtgldibfpidmfhaaGreatDoor
open Go.RowKit
theorem bDrewN {m : Nat} {a w : World} (h : Below m a w) (k : Nat) : Below m a (w.drewN k) := by
  induction k with
  | zero => exact h
  | succ k ih => exact ih.drew
set_option maxHeartbeats 8000000 in
set_option maxRecDepth 20000 in
theorem deg_sum (a b n : Nat) (v : Value) (f : Nat → Int) (ha : a < n) (hb : b < n) (h0 : ∀ i, i < n → 0 ≤ f i ∧ f i ≤ 1000) (w : World) (hv : Zs w v n f) : Calls Tryz.prog 166 #[.agg #[.int .i64 (a : Int), .int .i64 (b : Int)], v] w fun e w' => e = .returned (.int .i64 (max (f a) (f b))) ∧ Below w.heap.size w w' := by
  rcases hv with ⟨_, hz⟩ | ⟨ab, ao, c, rfl, _, _, lab, hcell⟩
  · omega
  have hai : (a : Int) < (n : Int) := by omega
  have ha0 : (0 : Int) ≤ (a : Int) := by omega
  have hbi : (b : Int) < (n : Int) := by omega
  have hb0 : (0 : Int) ≤ (b : Int) := by omega
  obtain ⟨y, ey⟩ : ∃ y, y = f a := ⟨_, rfl⟩
  obtain ⟨z, ez⟩ : ∃ z, z = f b := ⟨_, rfl⟩
  have hy := h0 a ha; have hzz := h0 b hb
  rw [← ey] at hy
  rw [← ez] at hzz
  have HB : Hid (∀ o, Below w.heap.size w (w.alloc o)) := fun o => bAlloc (Below.refl _ _) o
  have a0 := (HB.out (.cells #[.int .i64 (a : Int), .int .i64 (b : Int)] 188)).cell (p := ⟨ab, ao + a * 1 + 0, none⟩) lab
  have b0 := (HB.out (.cells #[.int .i64 (a : Int), .int .i64 (b : Int)] 188)).cell (p := ⟨ab, ao + b * 1 + 0, none⟩) lab
  rw [hcell a ha 0 (by decide)] at a0
  rw [hcell b hb 0 (by decide)] at b0
  dsimp only at a0 b0
  rw [Nat.add_zero, Nat.mul_one, ← ey] at a0
  rw [Nat.add_zero, Nat.mul_one, ← ez] at b0
  rw [← ey, ← ez]
  have HR : Hid (0 ≤ y ∧ y ≤ 1000 ∧ 0 ≤ z ∧ z ≤ 1000) := ⟨hy.1, hy.2, hzz.1, hzz.2⟩
  clear hcell ey ez hy hzz h0
  obtain ⟨w0, hw0⟩ : ∃ x : World, x = w.alloc (.cells #[.int .i64 (a : Int), .int .i64 (b : Int)] 188) := ⟨_, rfl⟩
  obtain ⟨N2, e2⟩ : ∃ N, N = w.heap.size := ⟨_, rfl⟩
  have hq : w0.heap[N2]? = some (.cells #[.int .i64 (a : Int), .int .i64 (b : Int)] 188) := by rw [hw0, e2]; show (w.heap.push _)[w.heap.size]? = _; simp
  have q0 : w0.cell? ⟨N2, 0, none⟩ = some (.int .i64 (a : Int)) := by simp [World.cell?, hq]
  have q1 : w0.cell? ⟨N2, 1, none⟩ = some (.int .i64 (b : Int)) := by simp [World.cell?, hq]
  clear hq
  rw [← hw0] at a0 b0
  have hbw : Below w.heap.size w w0 := by rw [hw0]; exact HB.out _
  go_enter Tryz.func166, Tryz.ntmps166
  go_upto_region 1 with fail
  rw [← hw0, ← e2]
  clear hw0 e2 HB
  skip
  go_quiet (fail)
  all_goals go_wp2
  all_goals go_ret
  all_goals refine ⟨?_, bDrewN hbw _⟩
  all_goals (show Ending.returned (Value.int .i64 _) = _; congr 2; have := HR.out; omega)
set_option maxHeartbeats 8000000 in
set_option maxRecDepth 20000 in
theorem deg_prod (a b n : Nat) (v : Value) (f : Nat → Int) (ha : a < n) (hb : b < n) (h0 : ∀ i, i < n → 0 ≤ f i ∧ f i ≤ 1000) (w : World) (hv : Zs w v n f) : Calls Tryz.prog 168 #[.agg #[.int .i64 (a : Int), .int .i64 (b : Int)], v] w fun e w' => e = .returned (.int .i64 (min (f a + f b) 1000)) ∧ Below w.heap.size w w' := by
  rcases hv with ⟨_, hz⟩ | ⟨ab, ao, c, rfl, _, _, lab, hcell⟩
  · omega
  have hai : (a : Int) < (n : Int) := by omega
  have ha0 : (0 : Int) ≤ (a : Int) := by omega
  have hbi : (b : Int) < (n : Int) := by omega
  have hb0 : (0 : Int) ≤ (b : Int) := by omega
  obtain ⟨y, ey⟩ : ∃ y, y = f a := ⟨_, rfl⟩
  obtain ⟨z, ez⟩ : ∃ z, z = f b := ⟨_, rfl⟩
  have hy := h0 a ha; have hzz := h0 b hb
  rw [← ey] at hy
  rw [← ez] at hzz
  have HB : Hid (∀ o, Below w.heap.size w (w.alloc o)) := fun o => bAlloc (Below.refl _ _) o
  have a0 := (HB.out (.cells #[.int .i64 (a : Int), .int .i64 (b : Int)] 189)).cell (p := ⟨ab, ao + a * 1 + 0, none⟩) lab
  have b0 := (HB.out (.cells #[.int .i64 (a : Int), .int .i64 (b : Int)] 189)).cell (p := ⟨ab, ao + b * 1 + 0, none⟩) lab
  rw [hcell a ha 0 (by decide)] at a0
  rw [hcell b hb 0 (by decide)] at b0
  dsimp only at a0 b0
  rw [Nat.add_zero, Nat.mul_one, ← ey] at a0
  rw [Nat.add_zero, Nat.mul_one, ← ez] at b0
  rw [← ey, ← ez]
  have HR : Hid (0 ≤ y ∧ y ≤ 1000 ∧ 0 ≤ z ∧ z ≤ 1000) := ⟨hy.1, hy.2, hzz.1, hzz.2⟩
  clear hcell ey ez hy hzz h0
  obtain ⟨w0, hw0⟩ : ∃ x : World, x = w.alloc (.cells #[.int .i64 (a : Int), .int .i64 (b : Int)] 189) := ⟨_, rfl⟩
  obtain ⟨N2, e2⟩ : ∃ N, N = w.heap.size := ⟨_, rfl⟩
  have hq : w0.heap[N2]? = some (.cells #[.int .i64 (a : Int), .int .i64 (b : Int)] 189) := by rw [hw0, e2]; show (w.heap.push _)[w.heap.size]? = _; simp
  have q0 : w0.cell? ⟨N2, 0, none⟩ = some (.int .i64 (a : Int)) := by simp [World.cell?, hq]
  have q1 : w0.cell? ⟨N2, 1, none⟩ = some (.int .i64 (b : Int)) := by simp [World.cell?, hq]
  clear hq
  rw [← hw0] at a0 b0
  have hbw : Below w.heap.size w w0 := by rw [hw0]; exact HB.out _
  go_enter Tryz.func168, Tryz.ntmps168
  go_upto_region 1 with fail
  rw [← hw0, ← e2]
  clear hw0 e2 HB
  have hs : wrap64 (y + z) = y + z := by have := HR.out; simp [wrap64]; omega
  go_quiet (fail)
  all_goals go_wp2
  all_goals go_ret
  all_goals refine ⟨?_, bDrewN hbw _⟩
  all_goals (show Ending.returned (Value.int .i64 _) = _; congr 2; have := HR.out; omega)
end Go.Proofs.YtgldibfpidmfhaaGreatDoor

/- An operation's degree, through the interface. -/
namespace Go.Proofs.YtgldibfpidmfhaaGreatDoor
open Go.RowKit
/-- The degree of the node T, where f are the degrees of those ahead. -/
def dstep (T : Int × Int × Int × Nat) (f : Nat → Int) : Int :=
  if T.1 = 1 then 0 else if T.1 = 2 ∨ T.1 = 3 ∨ T.1 = 4 then 1 else if T.1 = 5 ∨ T.1 = 8 then f T.2.1.toNat
  else if T.1 = 6 then max (f T.2.1.toNat) (f T.2.2.1.toNat) else min (f T.2.1.toNat + f T.2.2.1.toNat) 1000
theorem dstep_range (T : Int × Int × Int × Nat) (f : Nat → Int) (k : Nat) (h : okN T k = true) (hf : ∀ i, i < k → 0 ≤ f i ∧ f i ≤ 1000) : 0 ≤ dstep T f ∧ dstep T f ≤ 1000 := by
  obtain ⟨O, A, B, V⟩ := T
  unfold okN at h
  rw [Bool.and_eq_true] at h
  have hO : 1 ≤ O ∧ O ≤ 8 := of_decide_eq_true h.1
  have hA : ∀ i, i < uN O → 0 ≤ uF A B i ∧ uF A B i < (k : Int) := of_decide_eq_true h.2
  have hc : O = 1 ∨ O = 2 ∨ O = 3 ∨ O = 4 ∨ O = 5 ∨ O = 6 ∨ O = 7 ∨ O = 8 := by omega
  rcases hc with rfl | rfl | rfl | rfl | rfl | rfl | rfl | rfl
  · exact (show (0 : Int) ≤ 0 ∧ (0 : Int) ≤ 1000 from ⟨by decide, by decide⟩)
  · exact (show (0 : Int) ≤ 1 ∧ (1 : Int) ≤ 1000 from ⟨by decide, by decide⟩)
  · exact (show (0 : Int) ≤ 1 ∧ (1 : Int) ≤ 1000 from ⟨by decide, by decide⟩)
  · exact (show (0 : Int) ≤ 1 ∧ (1 : Int) ≤ 1000 from ⟨by decide, by decide⟩)
  · have ha := hA 0 (by decide)
    exact hf A.toNat (by have : (0 : Int) ≤ A ∧ A < k := ha; omega)
  · have ha := hA 0 (by decide); have hb := hA 1 (by decide)
    have h1 := hf A.toNat (by have : (0 : Int) ≤ A ∧ A < k := ha; omega)
    have h2 := hf B.toNat (by have : (0 : Int) ≤ B ∧ B < k := hb; omega)
    show 0 ≤ max (f A.toNat) (f B.toNat) ∧ max (f A.toNat) (f B.toNat) ≤ 1000
    omega
  · have ha := hA 0 (by decide); have hb := hA 1 (by decide)
    have h1 := hf A.toNat (by have : (0 : Int) ≤ A ∧ A < k := ha; omega)
    have h2 := hf B.toNat (by have : (0 : Int) ≤ B ∧ B < k := hb; omega)
    show 0 ≤ min (f A.toNat + f B.toNat) 1000 ∧ min (f A.toNat + f B.toNat) 1000 ≤ 1000
    omega
  · have ha := hA 0 (by decide)
    exact hf A.toNat (by have : (0 : Int) ≤ A ∧ A < k := ha; omega)
/-- The method that an operation has for its degree, and what it answers. -/
theorem deg_op (T : Int × Int × Int × Nat) (k : Nat) (h : okN T k = true) : ∃ (ty : TypeId) (pv : Value) (fn : FuncId) (rv : Value), opT T = .iface ty pv ∧ (∀ w, (method 340 ty pv "sigil/expr.degree").run Tryz.prog w = .ok (fn, rv) w) ∧ (∀ w, (nilAhead 340 ty pv "sigil/expr.degree").run Tryz.prog w = .ok (some false) w) ∧ (∀ w x, (callFunc fn #[rv, x]).run Tryz.prog w = .ok (.enter fn #[rv, x]) w) ∧
    ∀ (w : World) (v : Value) (f : Nat → Int), (∀ i, i < k → 0 ≤ f i ∧ f i ≤ 1000) → Zs w v k f → Calls Tryz.prog fn #[rv, v] w fun e w' => e = .returned (.int .i64 (dstep T f)) ∧ Below w.heap.size w w' := by
  obtain ⟨O, A, B, V⟩ := T
  unfold okN at h
  rw [Bool.and_eq_true] at h
  have hO : 1 ≤ O ∧ O ≤ 8 := of_decide_eq_true h.1
  have hA : ∀ i, i < uN O → 0 ≤ uF A B i ∧ uF A B i < (k : Int) := of_decide_eq_true h.2
  have hc : O = 1 ∨ O = 2 ∨ O = 3 ∨ O = 4 ∨ O = 5 ∨ O = 6 ∨ O = 7 ∨ O = 8 := by omega
  rcases hc with rfl | rfl | rfl | rfl | rfl | rfl | rfl | rfl
  · exact ⟨_, _, _, _, rfl, fun w => by kernel_rfl, fun w => by kernel_rfl, fun w x => by kernel_rfl, fun w v f _ _ => deg_const V v w⟩
  · exact ⟨_, _, _, _, rfl, fun w => by kernel_rfl, fun w => by kernel_rfl, fun w x => by kernel_rfl, fun w v f _ _ => deg_query 2 A B v w⟩
  · exact ⟨_, _, _, _, rfl, fun w => by kernel_rfl, fun w => by kernel_rfl, fun w x => by kernel_rfl, fun w v f _ _ => deg_query 3 A B v w⟩
  · exact ⟨_, _, _, _, rfl, fun w => by kernel_rfl, fun w => by kernel_rfl, fun w x => by kernel_rfl, fun w v f _ _ => deg_query 4 A B v w⟩
  · have ha : 0 ≤ A ∧ A < (k : Int) := hA 0 (by decide)
    obtain ⟨a, rfl⟩ : ∃ a : Nat, A = a := ⟨A.toNat, by omega⟩
    exact ⟨_, _, _, _, rfl, fun w => by kernel_rfl, fun w => by kernel_rfl, fun w x => by kernel_rfl, fun w v f _ hz => deg_neg a k v f (by omega) w hz⟩
  · have ha : 0 ≤ A ∧ A < (k : Int) := hA 0 (by decide)
    have hb : 0 ≤ B ∧ B < (k : Int) := hA 1 (by decide)
    obtain ⟨a, rfl⟩ : ∃ a : Nat, A = a := ⟨A.toNat, by omega⟩
    obtain ⟨b, rfl⟩ : ∃ b : Nat, B = b := ⟨B.toNat, by omega⟩
    exact ⟨_, _, _, _, rfl, fun w => by kernel_rfl, fun w => by kernel_rfl, fun w x => by kernel_rfl, fun w v f hf hz => deg_sum a b k v f (by omega) (by omega) hf w hz⟩
  · have ha : 0 ≤ A ∧ A < (k : Int) := hA 0 (by decide)
    have hb : 0 ≤ B ∧ B < (k : Int) := hA 1 (by decide)
    obtain ⟨a, rfl⟩ : ∃ a : Nat, A = a := ⟨A.toNat, by omega⟩
    obtain ⟨b, rfl⟩ : ∃ b : Nat, B = b := ⟨B.toNat, by omega⟩
    exact ⟨_, _, _, _, rfl, fun w => by kernel_rfl, fun w => by kernel_rfl, fun w x => by kernel_rfl, fun w v f hf hz => deg_prod a b k v f (by omega) (by omega) hf w hz⟩
  · have ha : 0 ≤ A ∧ A < (k : Int) := hA 0 (by decide)
    obtain ⟨a, rfl⟩ : ∃ a : Nat, A = a := ⟨A.toNat, by omega⟩
    exact ⟨_, _, _, _, rfl, fun w => by kernel_rfl, fun w => by kernel_rfl, fun w x => by kernel_rfl, fun w v f _ hz => deg_mul a k V v f (by omega) w hz⟩
end Go.Proofs.YtgldibfpidmfhaaGreatDoor

/- expr.Degrees. -/
namespace Go.Proofs.YtgldibfpidmfhaaGreatDoor
open Go.RowKit
/-- The degrees of the first k nodes; noughts behind them. -/
def dgs (T : Nat → Int × Int × Int × Nat) : Nat → Nat → Int
  | 0, _ => 0
  | k + 1, i => if i = k then dstep (T k) (dgs T k) else dgs T k i
theorem dgs_range (T : Nat → Int × Int × Int × Nat) : ∀ k, (∀ i, i < k → okN (T i) i = true) → ∀ i, 0 ≤ dgs T k i ∧ dgs T k i ≤ 1000
  | 0, _, i => (show (0 : Int) ≤ 0 ∧ (0 : Int) ≤ 1000 from ⟨by decide, by decide⟩)
  | k + 1, h, i => by
    have ih := dgs_range T k (fun i hi => h i (by omega))
    show 0 ≤ (if i = k then dstep (T k) (dgs T k) else dgs T k i) ∧ (if i = k then dstep (T k) (dgs T k) else dgs T k i) ≤ 1000
    split
    · exact dstep_range (T k) _ k (h k (by omega)) (fun i _ => ih i)
    · exact ih i
theorem made_int (n i j : Nat) (hi : i < n) (hj : j < 1) : (madeCells #[.int .i64 0] n).toList[i * 1 + j]? = some (.int .i64 0) := by
  rw [Array.getElem?_toList]
  unfold madeCells
  rw [Array.getElem?_map, Array.getElem?_range, if_pos (by omega)]
  show some _ = _
  dsimp only
  rw [show (#[.int .i64 0] : Array Value).size = 1 from rfl, show (i * 1 + j) % 1 = 0 from by omega]
  rfl
theorem intInfo : ∃ i : TypeInfo, Tryz.prog.info? 3 = some i ∧ i.zero = some (.int .i64 0) ∧ i.size = 1 ∧ i.bytes = 8 := by
  have h : (Tryz.prog.info? 3).map (fun i => (i.zero, i.size, i.bytes)) = some (some (.int .i64 0), 1, 8) := by kernel_rfl
  obtain ⟨i, hi, he⟩ := Option.map_eq_some_iff.mp h
  simp only [Prod.mk.injEq] at he
  exact ⟨i, hi, he.1, he.2.1, he.2.2⟩
set_option maxHeartbeats 16000000 in
set_option maxRecDepth 100000 in
theorem degrees_any (n cn : Nat) (oa : Option Addr) (T : Nat → Int × Int × Int × Nat) (hn : n ≤ 1000000) (w : World) (hv : Rs w (.slice oa n cn) 7 n (fun i => nC (T i))) :
    Calls Tryz.prog 104 #[.slice oa n cn] w fun e w' => ((ordB n T = true ∧ ∃ G, e = .returned (.slice (some ⟨G, 0, none⟩) n n) ∧ w.heap.size ≤ G ∧ BlkR w' 3 G 1 n (fun i _ => .int .i64 (dgs T n i))) ∨ (ordB n T = false ∧ e = .returned (.slice none 0 0))) ∧ Below w.heap.size w w' := by
  obtain ⟨i0, hi, hz0, hz1, hz2⟩ := intInfo
  have HI := (show Hid _ from hi); have HZ := (show Hid _ from And.intro hz0 (And.intro hz1 hz2)); clear hi hz0 hz1 hz2
  have HORD := (show Hid (Calls _ _ _ _ _) from ordered_any n cn oa T hn w hv)
  clear hv
  go_enter Tryz.func104, Tryz.ntmps104
  go_wp2_with fail
  refine Calls.mono HORD.out ?_
  rintro e w1 ⟨hh | hh, hb1⟩
  · obtain ⟨ho, L, rfl, lL, bL⟩ := hh
    have ho' : ∀ i, i < n → okN (T i) i = true := of_decide_eq_true ho
    have HO : Hid (∀ i, i < n → okN (T i) i = true) := ho'
    have HOR : Hid (ordB n T = true) := ho
    clear ho ho' HORD
    go_wp2_with (first
      | (at_make; refine wpList_make_full _ rfl _ _ 23 rfl w1.heap.size 3 i0 (.int .i64 0) 1 Tryz.underlying23 HI.out HZ.out.1 HZ.out.2.1 .i64 .i64 n n n rfl rfl rfl rfl ?c1 ?c2 (Nat.le_refl _) ?_)
      | go_in)
    case c1 => rw [HZ.out.2.2]; omega
    case c2 => unfold maxLen; omega
    intro w2 hown hgrow
    obtain ⟨G, eG⟩ : ∃ G, G = w1.heap.size := ⟨_, rfl⟩
    have lG : w1.heap.size ≤ G := by omega
    rw [← eG] at hown ⊢
    have bo2 : BlkR w2 3 G 1 n (fun _ _ => .int .i64 0) := (own_blkR (F := fun _ _ => .int .i64 0) hown (fun i hi j hj => made_int n i j hi hj)).1
    have hbe : Below w1.heap.size w1 w2 := (Below.refl _ w1).grown hgrow (Nat.le_refl _) (fun j hj => by cases hj)
    have bL2 := bL.belowAll hbe
    clear hown hgrow eG
    go_wp2
    go_loopw [20] (fun iv wr => ∃ k : Nat, iv = .int .i64 (k : Int) ∧ k ≤ n ∧ Below w1.heap.size w1 wr ∧ BlkR wr 3 G 1 n (fun i _ => .int .i64 (dgs T k i))) (fun iv _ => n - (intOf iv).toNat)
    case atStart => exact ⟨0, rfl, Nat.zero_le _, hbe, bo2.congr (fun i _ j _ => rfl)⟩
    case round =>
      obtain ⟨k, rfl, hk, hbr, bo⟩ := hrel
      clear bo2 hbe bL2
      by_cases hlt : k < n
      · have hki : (k : Int) < (n : Int) := by omega
        have hk0 : (0 : Int) ≤ (k : Int) := by omega
        obtain ⟨ty, pv, fn, rv, hif, fm, fna, fcl, HC⟩ := deg_op (T k) k (HO.out k hlt)
        have a0 := (bL.belowAll hbr).cell k hlt 0 (by decide)
        rw [Nat.mul_one, Nat.add_zero, hif] at a0
        have HCC := (show Hid _ from HC)
        have HRG : Hid (∀ i, i < k → 0 ≤ dgs T k i ∧ dgs T k i ≤ 1000) := fun i _ => dgs_range T k (fun i hi => HO.out i (by omega)) i
        have HZS : Hid (∀ w', BlkR w' 3 G 1 n (fun i _ => .int .i64 (dgs T k i)) → Zs w' (.slice (some ⟨G, 0, none⟩) k n) k (dgs T k)) := fun w' hq => Or.inr ⟨G, 0, n, rfl, hk, by unfold maxLen; omega, hq.lt, fun i hi j hj => by rw [Nat.zero_add]; exact hq.cell i (by omega) j hj⟩
        clear hif HC
        go_upto_region 8 with fail
        clear a0
        have hbr' : Below w1.heap.size w1 wr := hbr
        refine wp_region_Z (fun w' => BlkR w' 3 G 1 n (fun i _ => .int .i64 (dgs T k i))) 11 (by kernel_rfl) ?_
        obtain ⟨wD, hD⟩ : ∃ x : World, x = wr.drew := ⟨_, rfl⟩
        rw [← hD]
        have hp0 : BlkR wD 3 G 1 n (fun i _ => .int .i64 (dgs T k i)) := by rw [hD]; exact bo.drew
        have hlow0 : Below w1.heap.size w1 wD := by rw [hD]; exact hbr.drew
        clear hD
        refine wpZ_take (i := 0) (v := .slice (some ⟨G, 0, none⟩) n n) 25 rfl rfl (by kernel_rfl) (by kernel_rfl) (by kernel_rfl) (Or.inl (by kernel_rfl)) (fun _ _ _ h => h) (Or.inl ⟨by rfl, fun w hSw => by go_simp⟩) hp0 ?_
        simp only [Act.put, List.setIfInBounds_toArray]
        dsimp only [List.set_cons_zero, List.set_cons_succ]
        refine wpZ_take (i := 1) (v := .int .i64 (k : Int)) 26 rfl rfl (by kernel_rfl) (by kernel_rfl) (by kernel_rfl) (Or.inl (by kernel_rfl)) (fun _ _ _ h => h) (Or.inl ⟨by rfl, fun w hSw => by go_simp⟩) hp0 ?_
        simp only [Act.put, List.setIfInBounds_toArray]
        dsimp only [List.set_cons_zero, List.set_cons_succ]
        refine wpZ_take (i := 2) (v := .iface ty pv) 27 rfl rfl (by kernel_rfl) (by kernel_rfl) (by kernel_rfl) (Or.inl (by kernel_rfl)) (fun _ _ _ h => h) (Or.inl ⟨by rfl, fun w hSw => by go_simp⟩) hp0 ?_
        simp only [Act.put, List.setIfInBounds_toArray]
        dsimp only [List.set_cons_zero, List.set_cons_succ]
        refine wpZ_take (i := 3) (v := .slice (some ⟨G, 0, none⟩) n n) 28 rfl rfl (by kernel_rfl) (by kernel_rfl) (by kernel_rfl) (Or.inl (by kernel_rfl)) (fun _ _ _ h => h) (Or.inl ⟨by rfl, fun w hSw => by go_simp⟩) hp0 ?_
        simp only [Act.put, List.setIfInBounds_toArray]
        dsimp only [List.set_cons_zero, List.set_cons_succ]
        refine wpZ_take (i := 4) (v := .int .i64 (k : Int)) 29 rfl rfl (by kernel_rfl) (by kernel_rfl) (by kernel_rfl) (Or.inl (by kernel_rfl)) (fun _ _ _ h => h) (Or.inl ⟨by rfl, fun w hSw => by go_simp⟩) hp0 ?_
        simp only [Act.put, List.setIfInBounds_toArray]
        dsimp only [List.set_cons_zero, List.set_cons_succ]
        refine wpZ_take (i := 5) (v := .slice (some ⟨G, 0, none⟩) k n) 30 rfl rfl (by kernel_rfl) (by kernel_rfl) (by kernel_rfl) (Or.inl (by kernel_rfl)) (fun _ _ _ h => h) (Or.inl ⟨by rfl, fun w hSw => by go_simp⟩) hp0 ?_
        simp only [Act.put, List.setIfInBounds_toArray]
        dsimp only [List.set_cons_zero, List.set_cons_succ]
        refine wpZ_take (i := 6) (v := .func (.method "sigil/expr.degree") #[.iface ty pv] #[]) 31 rfl rfl (by kernel_rfl) (by kernel_rfl) (by kernel_rfl) (Or.inl (by kernel_rfl)) (fun _ _ _ h => h) (Or.inl ⟨by rfl, fun w hSw => by go_simp⟩) hp0 ?_
        simp only [Act.put, List.setIfInBounds_toArray]
        dsimp only [List.set_cons_zero, List.set_cons_succ]
        refine wpZ_take (i := 7) (v := .func (.method "sigil/expr.degree") #[.iface ty pv] #[]) 32 rfl rfl (by kernel_rfl) (by kernel_rfl) (by kernel_rfl) (Or.inl (by kernel_rfl)) (fun _ _ _ h => h) (Or.inl ⟨by rfl, fun w hSw => by go_simp⟩) hp0 ?_
        simp only [Act.put, List.setIfInBounds_toArray]
        dsimp only [List.set_cons_zero, List.set_cons_succ]
        refine wpZ_take (i := 8) (v := .iface ty pv) 33 rfl rfl (by kernel_rfl) (by kernel_rfl) (by kernel_rfl) (Or.inl (by kernel_rfl)) (fun _ _ _ h => h) (Or.inl ⟨by rfl, fun w hSw => by go_simp⟩) hp0 ?_
        simp only [Act.put, List.setIfInBounds_toArray]
        dsimp only [List.set_cons_zero, List.set_cons_succ]
        refine wpZ_one (i := 9) (by kernel_rfl) rfl (fun K hK => ?_)
        go_simp
        refine (HCC.out wD _ (dgs T k) HRG.out (HZS.out wD hp0)).mono ?_
        rintro e w5 ⟨rfl, hb5⟩
        have hp5 := hp0.belowAll hb5; have hlow5 := bStep hlow0 hb5
        clear fm fna fcl
        go_wp2_with fail
        refine hK.out _ _ (fun _ => hp5) ?_
        clear hK K
        refine wpZ_take (i := 10) (v := .pointer (some ⟨G, k, none⟩)) 35 rfl rfl (by kernel_rfl) (by kernel_rfl) (by kernel_rfl) (Or.inl (by kernel_rfl)) (fun _ _ _ h => h) (Or.inl ⟨by rfl, fun w hSw => by go_simp⟩) hp5 ?_
        simp only [Act.put, List.setIfInBounds_toArray]
        dsimp only [List.set_cons_zero, List.set_cons_succ]
        refine wpZ_one (i := 11) (by kernel_rfl) rfl (fun K hK => ?_)
        have cG := hp5.cell k hlt 0 (by decide)
        have fG := hp5.frozen
        rw [Nat.mul_one, Nat.add_zero] at cG
        have boN := hp5.set k 0 k hlt (by decide) (by omega) (.int .i64 (dstep (T k) (dgs T k)))
        have boF : BlkR (w5.setCell ⟨G, k, none⟩ (.int .i64 (dstep (T k) (dgs T k)))) 3 G 1 n (fun i _ => .int .i64 (dgs T (k + 1) i)) := boN.congr (fun i _ j hj => by
          have hj0 : j = 0 := by omega
          subst hj0
          show Value.int .i64 (if i = k then dstep (T k) (dgs T k) else dgs T k i) = _
          by_cases h1 : i = k
          · rw [if_pos h1, if_pos ⟨h1, rfl⟩]
          · rw [if_neg h1, if_neg (fun h => h1 h.1)])
        have hbF : Below w1.heap.size w1 (w5.setCell ⟨G, k, none⟩ (.int .i64 (dstep (T k) (dgs T k)))) := hlow5.setCell lG _
        have HBF : Hid (BlkR (w5.setCell ⟨G, k, none⟩ (.int .i64 (dstep (T k) (dgs T k)))) 3 G 1 n (fun i _ => .int .i64 (dgs T (k + 1) i))) := boF
        clear boN boF
        go_simp
        refine hK.out _ _ (fun h => absurd rfl h) ?_
        clear hK K cG fG hp5 hp0 hlow0 hlow5 hb5
        refine wpZ_done (by kernel_rfl) ?_ _
        go_wp2
        go_roundw
        case measure => simp [intOf]; omega
        case rel => exact ⟨k + 1, by go_num, by omega, hbF, HBF.out⟩
      · have hki : ¬ (k : Int) < (n : Int) := by omega
        have ek : k = n := by omega
        have HBF : Hid (BlkR wr 3 G 1 n (fun i _ => .int .i64 (dgs T n i))) := by rw [ek] at bo; exact bo
        have HFIN : Hid (Below w.heap.size w wr) := hb1.trans (hbr.mono hb1.size)
        have HLG : Hid (w.heap.size ≤ G) := Nat.le_trans hb1.size lG
        clear bo ek hbr
        go_wp2
        go_ret
        exact ⟨Or.inl ⟨HOR.out, G, rfl, HLG.out, HBF.out⟩, HFIN.out⟩
  · obtain ⟨ho, rfl⟩ := hh
    clear HORD
    go_wp2
    go_ret
    exact ⟨Or.inr ⟨ho, rfl⟩, hb1⟩
end Go.Proofs.YtgldibfpidmfhaaGreatDoor

