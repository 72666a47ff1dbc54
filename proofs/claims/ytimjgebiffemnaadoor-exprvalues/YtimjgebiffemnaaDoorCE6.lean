/- An operation's degree, through the interface. -/
import Derived.Test.YtimjgebiffemnaaDoorCE5
namespace Go.Proofs.YtimjgebiffemnaaDoor
open Go.RowKit

/-- The degree of the node T, where f are the degrees of those ahead. -/
def dstep (T : Int × Int × Int × Nat) (f : Nat → Int) : Int :=
  if T.1 = 1 then 0 else if T.1 = 2 ∨ T.1 = 3 ∨ T.1 = 4 then 1 else if T.1 = 5 ∨ T.1 = 8 then f T.2.1.toNat
  else if T.1 = 6 then max (f T.2.1.toNat) (f T.2.2.1.toNat) else min (f T.2.1.toNat + f T.2.2.1.toNat) 1000
theorem dstep_range (T : Int × Int × Int × Nat) (f : Nat → Int) (k : Nat) (h : okN T k = true) (hf : ∀ i, i < k → 0 ≤ f i ∧ f i ≤ 1000) : 0 ≤ dstep T f ∧ dstep T f ≤ 1000 := by
  obtain ⟨O, A, B, V⟩ := T
  unfold okN at h
  rw [Bool.and_eq_true] at h
  have hO : 1 ≤ O ∧ O ≤ 8 := of_decide_eq_true h.1
  have hA : ∀ i, i < uN O → 0 ≤ uF A B i ∧ uF A B i < (k : Int) := of_decide_eq_true h.2
  have hc : O = 1 ∨ O = 2 ∨ O = 3 ∨ O = 4 ∨ O = 5 ∨ O = 6 ∨ O = 7 ∨ O = 8 := by omega
  rcases hc with rfl | rfl | rfl | rfl | rfl | rfl | rfl | rfl
  · exact (show (0 : Int) ≤ 0 ∧ (0 : Int) ≤ 1000 from ⟨by decide, by decide⟩)
  · exact (show (0 : Int) ≤ 1 ∧ (1 : Int) ≤ 1000 from ⟨by decide, by decide⟩)
  · exact (show (0 : Int) ≤ 1 ∧ (1 : Int) ≤ 1000 from ⟨by decide, by decide⟩)
  · exact (show (0 : Int) ≤ 1 ∧ (1 : Int) ≤ 1000 from ⟨by decide, by decide⟩)
  · have ha := hA 0 (by decide)
    exact hf A.toNat (by have : (0 : Int) ≤ A ∧ A < k := ha; omega)
  · have ha := hA 0 (by decide); have hb := hA 1 (by decide)
    have h1 := hf A.toNat (by have : (0 : Int) ≤ A ∧ A < k := ha; omega)
    have h2 := hf B.toNat (by have : (0 : Int) ≤ B ∧ B < k := hb; omega)
    show 0 ≤ max (f A.toNat) (f B.toNat) ∧ max (f A.toNat) (f B.toNat) ≤ 1000
    omega
  · have ha := hA 0 (by decide); have hb := hA 1 (by decide)
    have h1 := hf A.toNat (by have : (0 : Int) ≤ A ∧ A < k := ha; omega)
    have h2 := hf B.toNat (by have : (0 : Int) ≤ B ∧ B < k := hb; omega)
    show 0 ≤ min (f A.toNat + f B.toNat) 1000 ∧ min (f A.toNat + f B.toNat) 1000 ≤ 1000
    omega
  · have ha := hA 0 (by decide)
    exact hf A.toNat (by have : (0 : Int) ≤ A ∧ A < k := ha; omega)
/-- The method that an operation has for its degree, and what it answers. -/
theorem deg_op (T : Int × Int × Int × Nat) (k : Nat) (h : okN T k = true) : ∃ (ty : TypeId) (pv : Value) (fn : FuncId) (rv : Value), opT T = .iface ty pv ∧ (∀ w, (method 267 ty pv "sigil/expr.degree").run Tryd.prog w = .ok (fn, rv) w) ∧ (∀ w, (nilAhead 267 ty pv "sigil/expr.degree").run Tryd.prog w = .ok (some false) w) ∧ (∀ w x, (callFunc fn #[rv, x]).run Tryd.prog w = .ok (.enter fn #[rv, x]) w) ∧
    ∀ (w : World) (v : Value) (f : Nat → Int), (∀ i, i < k → 0 ≤ f i ∧ f i ≤ 1000) → Zs w v k f → Calls Tryd.prog fn #[rv, v] w fun e w' => e = .returned (.int .i64 (dstep T f)) ∧ Below w.heap.size w w' := by
  obtain ⟨O, A, B, V⟩ := T
  unfold okN at h
  rw [Bool.and_eq_true] at h
  have hO : 1 ≤ O ∧ O ≤ 8 := of_decide_eq_true h.1
  have hA : ∀ i, i < uN O → 0 ≤ uF A B i ∧ uF A B i < (k : Int) := of_decide_eq_true h.2
  have hc : O = 1 ∨ O = 2 ∨ O = 3 ∨ O = 4 ∨ O = 5 ∨ O = 6 ∨ O = 7 ∨ O = 8 := by omega
  rcases hc with rfl | rfl | rfl | rfl | rfl | rfl | rfl | rfl
  · exact ⟨_, _, _, _, rfl, fun w => by kernel_rfl, fun w => by kernel_rfl, fun w x => by kernel_rfl, fun w v f _ _ => deg_const V v w⟩
  · exact ⟨_, _, _, _, rfl, fun w => by kernel_rfl, fun w => by kernel_rfl, fun w x => by kernel_rfl, fun w v f _ _ => deg_query 2 A B v w⟩
  · exact ⟨_, _, _, _, rfl, fun w => by kernel_rfl, fun w => by kernel_rfl, fun w x => by kernel_rfl, fun w v f _ _ => deg_query 3 A B v w⟩
  · exact ⟨_, _, _, _, rfl, fun w => by kernel_rfl, fun w => by kernel_rfl, fun w x => by kernel_rfl, fun w v f _ _ => deg_query 4 A B v w⟩
  · have ha : 0 ≤ A ∧ A < (k : Int) := hA 0 (by decide)
    obtain ⟨a, rfl⟩ : ∃ a : Nat, A = a := ⟨A.toNat, by omega⟩
    exact ⟨_, _, _, _, rfl, fun w => by kernel_rfl, fun w => by kernel_rfl, fun w x => by kernel_rfl, fun w v f _ hz => deg_neg a k v f (by omega) w hz⟩
  · have ha : 0 ≤ A ∧ A < (k : Int) := hA 0 (by decide)
    have hb : 0 ≤ B ∧ B < (k : Int) := hA 1 (by decide)
    obtain ⟨a, rfl⟩ : ∃ a : Nat, A = a := ⟨A.toNat, by omega⟩
    obtain ⟨b, rfl⟩ : ∃ b : Nat, B = b := ⟨B.toNat, by omega⟩
    exact ⟨_, _, _, _, rfl, fun w => by kernel_rfl, fun w => by kernel_rfl, fun w x => by kernel_rfl, fun w v f hf hz => deg_sum a b k v f (by omega) (by omega) hf w hz⟩
  · have ha : 0 ≤ A ∧ A < (k : Int) := hA 0 (by decide)
    have hb : 0 ≤ B ∧ B < (k : Int) := hA 1 (by decide)
    obtain ⟨a, rfl⟩ : ∃ a : Nat, A = a := ⟨A.toNat, by omega⟩
    obtain ⟨b, rfl⟩ : ∃ b : Nat, B = b := ⟨B.toNat, by omega⟩
    exact ⟨_, _, _, _, rfl, fun w => by kernel_rfl, fun w => by kernel_rfl, fun w x => by kernel_rfl, fun w v f hf hz => deg_prod a b k v f (by omega) (by omega) hf w hz⟩
  · have ha : 0 ≤ A ∧ A < (k : Int) := hA 0 (by decide)
    obtain ⟨a, rfl⟩ : ∃ a : Nat, A = a := ⟨A.toNat, by omega⟩
    exact ⟨_, _, _, _, rfl, fun w => by kernel_rfl, fun w => by kernel_rfl, fun w x => by kernel_rfl, fun w v f _ hz => deg_mul a k V v f (by omega) w hz⟩

end Go.Proofs.YtimjgebiffemnaaDoor
