/- circuit.every: a function holds of every one in a list. -/
import Derived.Test.YtbhljgenicahoaaCP
namespace Go.Proofs.Ytbhljgenicahoaa
open Go.RowKit

/-- A lookup's two cells, a column's two cells. -/
def pC (T : Value × Value) (j : Nat) : Value := if j = 0 then T.1 else T.2
theorem pC_one (T : Value × Value) (h : T.1.oneCell' = true ∧ T.2.oneCell' = true) (j : Nat) : (pC T j).oneCell' = true := by
  unfold pC
  split
  · exact h.1
  · exact h.2
/-- Every call of a function number k enters its body. -/
def Ent (k : FuncId) : Prop := ∀ (w : World) (args : Array Value), (callFunc k args).run Try.prog w = .ok (.enter k args) w
def evB (n : Nat) (p : Nat → Bool) : Bool := decide (∀ i, i < n → p i = true)
set_option maxHeartbeats 16000000 in
set_option maxRecDepth 100000 in
theorem everyI (n : Nat) (v : Value) (f : Nat → Int) (k : FuncId) (hk : Ent k) (bd fr : Array Value) (p : Nat → Bool) (J : Nat → World → Prop) (hn : n ≤ 1000000000000000) (w : World) (h0 : J 0 w)
    (hR : ∀ i w', J i w' → Rs w' v 1 n (fun i _ => .int .i64 (f i))) (hA : ∀ i w' o, J i w' → J i (w'.alloc o))
    (HC : ∀ i, i < n → ∀ w', J i w' → Calls Try.prog k ((bd ++ #[.int .i64 (f i)]) ++ fr) w' fun e w2 => e = .returned (.bool (p i)) ∧ J (i + 1) w2) :
    Calls Try.prog 63 #[v, .func (.func k) bd fr] w fun e w' => e = .returned (.bool (evB n p)) ∧ ∃ i, i ≤ n ∧ J i w' := by
  obtain ⟨oa, cn, rfl⟩ := (hR 0 w h0).shape
  have HR : Hid (∀ i w', J i w' → Rs w' (.slice oa n cn) 1 n (fun i _ => .int .i64 (f i))) := hR
  have HA : Hid (∀ i w' o, J i w' → J i (w'.alloc o)) := hA
  have HCC : Hid (∀ i, i < n → ∀ w', J i w' → Calls Try.prog k ((bd ++ #[.int .i64 (f i)]) ++ fr) w' fun e w2 => e = .returned (.bool (p i)) ∧ J (i + 1) w2) := HC
  have HEN : Hid (Ent k) := hk
  obtain ⟨bA, ebA⟩ : ∃ b, b = evB n p := ⟨_, rfl⟩
  rw [← ebA]
  have HBA : Hid (bA = evB n p) := ebA
  clear hR hA HC hk ebA
  go_enter Try.func63, Try.ntmps63
  go_wp2
  go_loopw [9] (fun iv wr => ∃ q : Nat, iv = .int .i64 (q : Int) ∧ q ≤ n ∧ J q wr ∧ Hid (∀ i, i < q → p i = true)) (fun iv _ => n - (intOf iv).toNat)
  case atStart => exact ⟨0, rfl, Nat.zero_le _, h0, fun i hi => by omega⟩
  case round =>
    obtain ⟨q, rfl, hq, hJ, HALL⟩ := hrel
    clear h0
    by_cases hlt : q < n
    · have hki : (q : Int) < (n : Int) := by omega
      have hk0 : (0 : Int) ≤ (q : Int) := by omega
      rcases HR.out q wr hJ with ⟨_, h0⟩ | ⟨ab, ao, c', hv, _, _, lab, hcell⟩
      · omega
      cases hv
      have HJ : Hid (J q wr) := hJ
      have a0 := hcell q hlt 0 (by decide)
      dsimp only at a0
      rw [Nat.add_zero, Nat.mul_one] at a0
      have HJ1 := HJ
      clear hcell lab hJ
      have hent : ∀ (w : World) (args : Array Value), (callFunc k args).run Try.prog w = .ok (.enter k args) w := HEN.out

      go_wp2_with fail
      refine (HCC.out q hlt _ HJ1.out).mono ?_
      rintro e w2 ⟨rfl, hJ2⟩
      have HJ2 : Hid (J (q + 1) w2) := hJ2
      obtain ⟨bq, ebq⟩ : ∃ b, b = p q := ⟨_, rfl⟩
      rw [← ebq]
      have HP : Hid (bq = p q) := ebq
      clear hJ2 ebq hent
      cases bq
      · have HF : Hid (bA = false) := HBA.out.trans (decide_eq_false (fun a => by have h := a q hlt; rw [← HP.out] at h; cases h))
        go_wp2
        go_ret
        exact ⟨by rw [HF.out]; rfl, q + 1, hlt, HJ2.out⟩
      · have HN : Hid (∀ i, i < q + 1 → p i = true) := fun i hi => by
          rcases Nat.lt_or_ge i q with h | h
          · exact HALL.out i h
          · rw [show i = q by omega]; exact HP.out.symm
        go_wp2
        go_roundw
        case measure => simp [intOf]; omega
        case rel => exact ⟨q + 1, by go_num, hlt, HJ2.out, HN⟩
    · have hki : ¬ (q : Int) < (n : Int) := by omega
      have HF : Hid (bA = true) := HBA.out.trans (decide_eq_true (fun i hi => HALL.out i (by omega)))
      have HJ : Hid (J q wr) := hJ
      clear hJ
      go_wp2
      go_ret
      exact ⟨by rw [HF.out]; rfl, q, hq, HJ.out⟩
set_option maxHeartbeats 16000000 in
set_option maxRecDepth 100000 in
theorem everyL (n : Nat) (v : Value) (f : Nat → Value × Value) (hone : ∀ i, i < n → (∃ o m c, (f i).1 = .slice o m c) ∧ ∃ o m c, (f i).2 = .slice o m c) (k : FuncId) (hk : Ent k) (bd fr : Array Value) (p : Nat → Bool) (J : Nat → World → Prop) (hn : n ≤ 1000000000000000) (w : World) (h0 : J 0 w)
    (hR : ∀ i w', J i w' → Rs w' v 2 n (fun i => pC (f i))) (hA : ∀ i w' o, J i w' → J i (w'.alloc o))
    (HC : ∀ i, i < n → ∀ w', J i w' → Calls Try.prog k ((bd ++ #[.agg #[(f i).1, (f i).2]]) ++ fr) w' fun e w2 => e = .returned (.bool (p i)) ∧ J (i + 1) w2) :
    Calls Try.prog 67 #[v, .func (.func k) bd fr] w fun e w' => e = .returned (.bool (evB n p)) ∧ ∃ i, i ≤ n ∧ J i w' := by
  obtain ⟨oa, cn, rfl⟩ := (hR 0 w h0).shape
  have HR : Hid (∀ i w', J i w' → Rs w' (.slice oa n cn) 2 n (fun i => pC (f i))) := hR
  have HA : Hid (∀ i w' o, J i w' → J i (w'.alloc o)) := hA
  have HCC : Hid (∀ i, i < n → ∀ w', J i w' → Calls Try.prog k ((bd ++ #[.agg #[(f i).1, (f i).2]]) ++ fr) w' fun e w2 => e = .returned (.bool (p i)) ∧ J (i + 1) w2) := HC
  have HEN : Hid (Ent k) := hk
  obtain ⟨bA, ebA⟩ : ∃ b, b = evB n p := ⟨_, rfl⟩
  rw [← ebA]
  have HBA : Hid (bA = evB n p) := ebA
  clear hR hA HC hk ebA
  go_enter Try.func67, Try.ntmps67
  go_wp2
  go_loopw [9] (fun iv wr => ∃ q : Nat, iv = .int .i64 (q : Int) ∧ q ≤ n ∧ J q wr ∧ Hid (∀ i, i < q → p i = true)) (fun iv _ => n - (intOf iv).toNat)
  case atStart => exact ⟨0, rfl, Nat.zero_le _, h0, fun i hi => by omega⟩
  case round =>
    obtain ⟨q, rfl, hq, hJ, HALL⟩ := hrel
    clear h0
    by_cases hlt : q < n
    · have hki : (q : Int) < (n : Int) := by omega
      have hk0 : (0 : Int) ≤ (q : Int) := by omega
      rcases HR.out q wr hJ with ⟨_, h0⟩ | ⟨ab, ao, c', hv, _, _, lab, hcell⟩
      · omega
      cases hv
      have HJ : Hid (J q wr) := hJ
      obtain ⟨⟨o0, n0, c0, e0⟩, o1, n1, c1, e1⟩ := hone q hlt
      have a0 := hcell q hlt 0 (by decide); have a1 := hcell q hlt 1 (by decide)
      dsimp only at a0 a1
      rw [show pC (f q) 0 = .slice o0 n0 c0 from e0] at a0
      rw [show pC (f q) 1 = .slice o1 n1 c1 from e1] at a1
      rw [Nat.add_zero] at a0
      have HJ1 : Hid (J q (wr.alloc (.cells #[.slice o0 n0 c0, .slice o1 n1 c1] 53))) := HA.out q wr _ HJ.out
      have HXE : Hid (f q = (.slice o0 n0 c0, .slice o1 n1 c1)) := by show f q = _; rw [← e0, ← e1]
      clear hcell lab hJ
      have hent : ∀ (w : World) (args : Array Value), (callFunc k args).run Try.prog w = .ok (.enter k args) w := HEN.out
      clear e0 e1
      go_wp2_with fail
      refine (show Calls Try.prog k ((bd ++ #[.agg #[.slice o0 n0 c0, .slice o1 n1 c1]]) ++ fr) (wr.alloc (.cells #[.slice o0 n0 c0, .slice o1 n1 c1] 53)) _ from by have h := HCC.out q hlt _ HJ1.out; rw [HXE.out] at h; exact h).mono ?_
      rintro e w2 ⟨rfl, hJ2⟩
      have HJ2 : Hid (J (q + 1) w2) := hJ2
      obtain ⟨bq, ebq⟩ : ∃ b, b = p q := ⟨_, rfl⟩
      rw [← ebq]
      have HP : Hid (bq = p q) := ebq
      clear hJ2 ebq hent
      cases bq
      · have HF : Hid (bA = false) := HBA.out.trans (decide_eq_false (fun a => by have h := a q hlt; rw [← HP.out] at h; cases h))
        go_wp2
        go_ret
        exact ⟨by rw [HF.out]; rfl, q + 1, hlt, HJ2.out⟩
      · have HN : Hid (∀ i, i < q + 1 → p i = true) := fun i hi => by
          rcases Nat.lt_or_ge i q with h | h
          · exact HALL.out i h
          · rw [show i = q by omega]; exact HP.out.symm
        go_wp2
        go_roundw
        case measure => simp [intOf]; omega
        case rel => exact ⟨q + 1, by go_num, hlt, HJ2.out, HN⟩
    · have hki : ¬ (q : Int) < (n : Int) := by omega
      have HF : Hid (bA = true) := HBA.out.trans (decide_eq_true (fun i hi => HALL.out i (by omega)))
      have HJ : Hid (J q wr) := hJ
      clear hJ
      go_wp2
      go_ret
      exact ⟨by rw [HF.out]; rfl, q, hq, HJ.out⟩
set_option maxHeartbeats 16000000 in
set_option maxRecDepth 100000 in
theorem everyC (n : Nat) (v : Value) (f : Nat → Int × Int) (k : FuncId) (hk : Ent k) (bd fr : Array Value) (p : Nat → Bool) (J : Nat → World → Prop) (hn : n ≤ 1000000000000000) (w : World) (h0 : J 0 w)
    (hR : ∀ i w', J i w' → Rs w' v 2 n (fun i => pC (.int .i64 (f i).1, .int .i64 (f i).2))) (hA : ∀ i w' o, J i w' → J i (w'.alloc o))
    (HC : ∀ i, i < n → ∀ w', J i w' → Calls Try.prog k ((bd ++ #[.agg #[.int .i64 (f i).1, .int .i64 (f i).2]]) ++ fr) w' fun e w2 => e = .returned (.bool (p i)) ∧ J (i + 1) w2) :
    Calls Try.prog 69 #[v, .func (.func k) bd fr] w fun e w' => e = .returned (.bool (evB n p)) ∧ ∃ i, i ≤ n ∧ J i w' := by
  obtain ⟨oa, cn, rfl⟩ := (hR 0 w h0).shape
  have HR : Hid (∀ i w', J i w' → Rs w' (.slice oa n cn) 2 n (fun i => pC (.int .i64 (f i).1, .int .i64 (f i).2))) := hR
  have HA : Hid (∀ i w' o, J i w' → J i (w'.alloc o)) := hA
  have HCC : Hid (∀ i, i < n → ∀ w', J i w' → Calls Try.prog k ((bd ++ #[.agg #[.int .i64 (f i).1, .int .i64 (f i).2]]) ++ fr) w' fun e w2 => e = .returned (.bool (p i)) ∧ J (i + 1) w2) := HC
  have HEN : Hid (Ent k) := hk
  obtain ⟨bA, ebA⟩ : ∃ b, b = evB n p := ⟨_, rfl⟩
  rw [← ebA]
  have HBA : Hid (bA = evB n p) := ebA
  clear hR hA HC hk ebA
  go_enter Try.func69, Try.ntmps69
  go_wp2
  go_loopw [9] (fun iv wr => ∃ q : Nat, iv = .int .i64 (q : Int) ∧ q ≤ n ∧ J q wr ∧ Hid (∀ i, i < q → p i = true)) (fun iv _ => n - (intOf iv).toNat)
  case atStart => exact ⟨0, rfl, Nat.zero_le _, h0, fun i hi => by omega⟩
  case round =>
    obtain ⟨q, rfl, hq, hJ, HALL⟩ := hrel
    clear h0
    by_cases hlt : q < n
    · have hki : (q : Int) < (n : Int) := by omega
      have hk0 : (0 : Int) ≤ (q : Int) := by omega
      rcases HR.out q wr hJ with ⟨_, h0⟩ | ⟨ab, ao, c', hv, _, _, lab, hcell⟩
      · omega
      cases hv
      have HJ : Hid (J q wr) := hJ
      obtain ⟨x0, e0⟩ : ∃ x, x = (f q).1 := ⟨_, rfl⟩
      obtain ⟨x1, e1⟩ : ∃ x, x = (f q).2 := ⟨_, rfl⟩
      have a0 := hcell q hlt 0 (by decide); have a1 := hcell q hlt 1 (by decide)
      dsimp only at a0 a1
      rw [show pC (.int .i64 (f q).1, .int .i64 (f q).2) 0 = .int .i64 x0 from by rw [e0]; rfl] at a0
      rw [show pC (.int .i64 (f q).1, .int .i64 (f q).2) 1 = .int .i64 x1 from by rw [e1]; rfl] at a1
      rw [Nat.add_zero] at a0
      have HJ1 : Hid (J q (wr.alloc (.cells #[.int .i64 x0, .int .i64 x1] 64))) := HA.out q wr _ HJ.out
      have HXE : Hid (f q = (x0, x1)) := by show f q = _; rw [e0, e1]
      clear hcell lab hJ
      have hent : ∀ (w : World) (args : Array Value), (callFunc k args).run Try.prog w = .ok (.enter k args) w := HEN.out
      clear e0 e1
      go_wp2_with fail
      refine (show Calls Try.prog k ((bd ++ #[.agg #[.int .i64 x0, .int .i64 x1]]) ++ fr) (wr.alloc (.cells #[.int .i64 x0, .int .i64 x1] 64)) _ from by have h := HCC.out q hlt _ HJ1.out; rw [HXE.out] at h; exact h).mono ?_
      rintro e w2 ⟨rfl, hJ2⟩
      have HJ2 : Hid (J (q + 1) w2) := hJ2
      obtain ⟨bq, ebq⟩ : ∃ b, b = p q := ⟨_, rfl⟩
      rw [← ebq]
      have HP : Hid (bq = p q) := ebq
      clear hJ2 ebq hent
      cases bq
      · have HF : Hid (bA = false) := HBA.out.trans (decide_eq_false (fun a => by have h := a q hlt; rw [← HP.out] at h; cases h))
        go_wp2
        go_ret
        exact ⟨by rw [HF.out]; rfl, q + 1, hlt, HJ2.out⟩
      · have HN : Hid (∀ i, i < q + 1 → p i = true) := fun i hi => by
          rcases Nat.lt_or_ge i q with h | h
          · exact HALL.out i h
          · rw [show i = q by omega]; exact HP.out.symm
        go_wp2
        go_roundw
        case measure => simp [intOf]; omega
        case rel => exact ⟨q + 1, by go_num, hlt, HJ2.out, HN⟩
    · have hki : ¬ (q : Int) < (n : Int) := by omega
      have HF : Hid (bA = true) := HBA.out.trans (decide_eq_true (fun i hi => HALL.out i (by omega)))
      have HJ : Hid (J q wr) := hJ
      clear hJ
      go_wp2
      go_ret
      exact ⟨by rw [HF.out]; rfl, q, hq, HJ.out⟩

end Go.Proofs.Ytbhljgenicahoaa
