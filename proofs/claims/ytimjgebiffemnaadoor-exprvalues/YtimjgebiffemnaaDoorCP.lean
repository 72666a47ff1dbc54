/- Copies of numbers and of nodes, as new memory. -/
import Derived.Test.YtimjgebiffemnaaDoorCE7
import Derived.Test.YtimjgebiffemnaaDoorCR
namespace Go.Proofs.YtimjgebiffemnaaDoor
open Go.RowKit

theorem intInf : ∃ i : TypeInfo, Tryd.prog.info? 3 = some i ∧ i.zero = some (.int .i64 0) ∧ i.size = 1 ∧ i.bytes = 8 := by
  have h : (Tryd.prog.info? 3).map (fun i => (i.zero, i.size, i.bytes)) = some (some (.int .i64 0), 1, 8) := by kernel_rfl
  obtain ⟨i, hi, he⟩ := Option.map_eq_some_iff.mp h
  simp only [Prod.mk.injEq] at he
  exact ⟨i, hi, he.1, he.2.1, he.2.2⟩
theorem nodeInf : ∃ i : TypeInfo, Tryd.prog.info? 46 = some i ∧ i.zero = some (.agg #[.int .i64 0, .int .i64 0, .int .i64 0, .int .u64 0, .int .u64 0, .int .u64 0, .int .u64 0]) ∧ i.size = 7 ∧ i.bytes = 56 := by
  have h : (Tryd.prog.info? 46).map (fun i => (i.zero, i.size, i.bytes)) = some (some (.agg #[.int .i64 0, .int .i64 0, .int .i64 0, .int .u64 0, .int .u64 0, .int .u64 0, .int .u64 0]), 7, 56) := by kernel_rfl
  obtain ⟨i, hi, he⟩ := Option.map_eq_some_iff.mp h
  simp only [Prod.mk.injEq] at he
  exact ⟨i, hi, he.1, he.2.1, he.2.2⟩
theorem qryInf : ∃ i : TypeInfo, Tryd.prog.info? 51 = some i ∧ i.zero = some (.agg #[.int .i64 0, .int .i64 0, .int .i64 0]) ∧ i.size = 3 ∧ i.bytes = 24 := by
  have h : (Tryd.prog.info? 51).map (fun i => (i.zero, i.size, i.bytes)) = some (some (.agg #[.int .i64 0, .int .i64 0, .int .i64 0]), 3, 24) := by kernel_rfl
  obtain ⟨i, hi, he⟩ := Option.map_eq_some_iff.mp h
  simp only [Prod.mk.injEq] at he
  exact ⟨i, hi, he.1, he.2.1, he.2.2⟩
theorem nC_one (T : Int × Int × Int × Nat) (j : Nat) : (nC T j).oneCell' = true := by
  unfold nC
  split
  · rfl
  · split
    · rfl
    · split <;> rfl
set_option maxHeartbeats 2000000 in
set_option maxRecDepth 20000 in
theorem copyN_any (n : Nat) (v : Value) (f : Nat → Int × Int × Int × Nat) (hn : n ≤ 2513169434916) (w : World) (h : Rs w v 7 n (fun i => nC (f i))) :
    Calls Tryd.prog 9 #[v] w fun e w' => ∃ v', e = .returned v' ∧ w'.ownsRow w.heap.size 46 7 v' n (rwl 7 (fun i => nC (f i)) n) ∧ Below w.heap.size w w' := by
  obtain ⟨i0, hi, hz0, hz1, hz2⟩ := nodeInf
  have HI := (show Hid _ from hi); have HZ := (show Hid _ from And.intro hz0 (And.intro hz1 hz2)); clear hi hz0 hz1 hz2
  obtain ⟨w1, hw1⟩ : ∃ x : World, x = w.alloc (.cells #[] 46) := ⟨_, rfl⟩
  have hb1 : Below w.heap.size w w1 := by rw [hw1]; exact (Below.refl _ _).alloc (Nat.le_refl _) _
  have HO : Hid (w1.ownsRow w.heap.size 46 7 (.slice (some ⟨w.heap.size, 0, none⟩) 0 0) 0 (rwl 7 (fun _ _ => undef) 0)) := by rw [hw1]; exact own_new w 46 7
  have HR : Hid (Rs w1 v 7 n (fun i => nC (f i))) := h.below hb1
  have HB := (show Hid (Below w.heap.size w w1) from hb1)
  obtain ⟨N, eN⟩ : ∃ N, N = w.heap.size := ⟨_, rfl⟩
  obtain ⟨oa, cn, rfl⟩ := h.shape
  clear h hb1
  go_enter Tryd.func9, Tryd.ntmps9
  go_wp2_with (first
    | (at_builtin; rw [← hw1]; refine wpList_appR _ rfl _ _ 22 rfl w.heap.size 46 i0 (.agg #[.int .i64 0, .int .i64 0, .int .i64 0, .int .u64 0, .int .u64 0, .int .u64 0, .int .u64 0]) 7 56 Tryd.underlying22 HI.out HZ.out.1 HZ.out.2.1 HZ.out.2.2 rfl (by decide) _ 0 _ rfl HO.out n _ _ rfl HR.out (fun i _ j _ => nC_one _ _) ?c1 ?c2 ?c3 ?_)
    | go_in)
  case c1 => unfold maxLen; omega
  case c2 => omega
  case c3 => exact HB.out.size
  intro v' w2 hown' hgrow hsep
  have hF : w2.ownsRow w.heap.size 46 7 v' n (rwl 7 (fun i => nC (f i)) n) := by simpa only [Nat.zero_add, Nat.not_lt_zero, if_false, Nat.sub_zero] using hown'
  have HF : Hid (w2.ownsRow w.heap.size 46 7 v' n (rwl 7 (fun i => nC (f i)) n)) := hF
  clear hF
  have HBF : Hid (Below w.heap.size w w2) := HB.out.grown (by rw [hw1]; exact hgrow) HB.out.size (fun j hj => own_ge HO.out hj)
  clear hown' hgrow hsep
  go_wp2
  go_ret
  exact ⟨_, rfl, HF.out, HBF.out⟩
/-- A list of numbers; where it is empty, nothing is said of the place. -/
def Zq (w : World) (v : Value) (n : Nat) (f : Nat → Int) : Prop := Zs w v n f ∨ (n = 0 ∧ ∃ a c, v = .slice (some a) 0 c)
theorem Zq.below {w w' : World} {v : Value} {n : Nat} {f : Nat → Int} (h : Zq w v n f) (hb : Below w.heap.size w w') : Zq w' v n f := h.elim (fun h => Or.inl (h.below hb)) Or.inr
theorem Zq.shape {w : World} {v : Value} {n : Nat} {f : Nat → Int} (h : Zq w v n f) : ∃ oa c, v = .slice oa n c := by
  rcases h with h | ⟨rfl, a, c, rfl⟩
  · exact Rs.shape h
  · exact ⟨_, _, rfl⟩
end Go.Proofs.YtimjgebiffemnaaDoor
