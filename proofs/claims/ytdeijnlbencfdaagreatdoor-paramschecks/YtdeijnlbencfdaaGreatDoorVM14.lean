/- Multiples of points, and that the other modulus times any point is infinity. No walk. -/
import Derived.Test.YtdeijnlbencfdaaGreatDoorVM11
import Derived.Test.YtdeijnlbencfdaaGreatDoorVM7
namespace Go.Proofs.YtdeijnlbencfdaaGreatDoor
def oT : Nat × Nat × Bool := (0, 0, true)
def onT (c : Nat) (Q : Nat × Nat × Bool) : Prop := onC c Q.1 Q.2.1 Q.2.2
def ad (c : Nat) (Q R : Nat × Nat × Bool) : Nat × Nat × Bool := sumPt c Q.1 Q.2.1 Q.2.2 R.1 R.2.1 R.2.2
section
variable {c : Nat} {Q R S : Nat × Nat × Bool}
theorem oT_on : onT c oT := Or.inl ⟨rfl, rfl, rfl⟩
theorem ad_on (h1 : onT c Q) (h2 : onT c R) : onT c (ad c Q R) := sum_onC h1 h2
theorem ad_comm (h1 : onT c Q) (h2 : onT c R) : ad c Q R = ad c R Q := sum_comm h1 h2
theorem ad_assoc (h1 : onT c Q) (h2 : onT c R) (h3 : onT c S) : ad c (ad c Q R) S = ad c Q (ad c R S) := sum_assoc h1 h2 h3
theorem o_ad : ad c oT Q = Q := by
 obtain ⟨x, y, i⟩ := Q
 exact inf_fin
theorem ad_o (h : onT c Q) : ad c Q oT = Q := by rw [ad_comm h oT_on, o_ad]
end
/-- So often a point. -/
def sm (c : Nat) (Q : Nat × Nat × Bool) : Nat → Nat × Nat × Bool
 | 0 => oT
 | n + 1 => ad c (sm c Q n) Q
section
variable {c : Nat} {Q R : Nat × Nat × Bool}
theorem sm_on (h : onT c Q) : ∀ n, onT c (sm c Q n)
 | 0 => oT_on
 | n + 1 => ad_on (sm_on h n) h
theorem sm_one : sm c Q 1 = Q := o_ad
theorem sm_add (h : onT c Q) (a : Nat) : ∀ b, sm c Q (a + b) = ad c (sm c Q a) (sm c Q b)
 | 0 => (ad_o (sm_on h a)).symm
 | b + 1 => by
  show ad c (sm c Q (a + b)) Q = ad c (sm c Q a) (ad c (sm c Q b) Q)
  rw [sm_add h a b, ad_assoc (sm_on h a) (sm_on h b) h]
theorem sm_mul (h : onT c Q) (a : Nat) : ∀ b, sm c (sm c Q a) b = sm c Q (a * b)
 | 0 => rfl
 | b + 1 => by
  show ad c (sm c (sm c Q a) b) (sm c Q a) = sm c Q (a * (b + 1))
  rw [sm_mul h a b, Nat.mul_succ, sm_add h]
theorem sm_o : ∀ n, sm c oT n = oT
 | 0 => rfl
 | n + 1 => by
  show ad c (sm c oT n) oT = oT
  rw [sm_o n, o_ad]
end
/-- A place for each point. -/
def place (c : Nat) (Q : Nat × Nat × Bool) : Nat := if Q.2.2 = true then 2 * modN c else 2 * Q.1 + Q.2.1 % 2
def gx : Nat → Nat
 | 0 => 1
 | 1 => 1
 | 2 => 28948022309329048855892746252171976963363056481941560715954676764349967630336
 | _ => 28948022309329048855892746252171976963363056481941647379679742748393362948096
def gy : Nat → Nat
 | 0 => 2487377
 | 1 => 7286451
 | _ => 2
end Go.Proofs.YtdeijnlbencfdaaGreatDoor
