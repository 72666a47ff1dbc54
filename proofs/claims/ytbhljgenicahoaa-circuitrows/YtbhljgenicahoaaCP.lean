/- Copies of numbers and of nodes, as new memory. -/
import Derived.Test.YtbhljgenicahoaaCE7
import Derived.Test.YtbhljgenicahoaaCR
namespace Go.Proofs.Ytbhljgenicahoaa
open Go.RowKit

theorem intInf : ∃ i : TypeInfo, Try.prog.info? 3 = some i ∧ i.zero = some (.int .i64 0) ∧ i.size = 1 ∧ i.bytes = 8 := by
  have h : (Try.prog.info? 3).map (fun i => (i.zero, i.size, i.bytes)) = some (some (.int .i64 0), 1, 8) := by kernel_rfl
  obtain ⟨i, hi, he⟩ := Option.map_eq_some_iff.mp h
  simp only [Prod.mk.injEq] at he
  exact ⟨i, hi, he.1, he.2.1, he.2.2⟩
theorem nodeInf : ∃ i : TypeInfo, Try.prog.info? 49 = some i ∧ i.zero = some (.agg #[.int .i64 0, .int .i64 0, .int .i64 0, .int .u64 0, .int .u64 0, .int .u64 0, .int .u64 0]) ∧ i.size = 7 ∧ i.bytes = 56 := by
  have h : (Try.prog.info? 49).map (fun i => (i.zero, i.size, i.bytes)) = some (some (.agg #[.int .i64 0, .int .i64 0, .int .i64 0, .int .u64 0, .int .u64 0, .int .u64 0, .int .u64 0]), 7, 56) := by kernel_rfl
  obtain ⟨i, hi, he⟩ := Option.map_eq_some_iff.mp h
  simp only [Prod.mk.injEq] at he
  exact ⟨i, hi, he.1, he.2.1, he.2.2⟩
theorem lkInf : ∃ i : TypeInfo, Try.prog.info? 53 = some i ∧ i.zero = some (.agg #[.slice none 0 0, .slice none 0 0]) ∧ i.size = 2 ∧ i.bytes = 48 := by
  have h : (Try.prog.info? 53).map (fun i => (i.zero, i.size, i.bytes)) = some (some (.agg #[.slice none 0 0, .slice none 0 0]), 2, 48) := by kernel_rfl
  obtain ⟨i, hi, he⟩ := Option.map_eq_some_iff.mp h
  simp only [Prod.mk.injEq] at he
  exact ⟨i, hi, he.1, he.2.1, he.2.2⟩
theorem colInf : ∃ i : TypeInfo, Try.prog.info? 64 = some i ∧ i.zero = some (.agg #[.int .i64 0, .int .i64 0]) ∧ i.size = 2 ∧ i.bytes = 16 := by
  have h : (Try.prog.info? 64).map (fun i => (i.zero, i.size, i.bytes)) = some (some (.agg #[.int .i64 0, .int .i64 0]), 2, 16) := by kernel_rfl
  obtain ⟨i, hi, he⟩ := Option.map_eq_some_iff.mp h
  simp only [Prod.mk.injEq] at he
  exact ⟨i, hi, he.1, he.2.1, he.2.2⟩
theorem qryInf : ∃ i : TypeInfo, Try.prog.info? 66 = some i ∧ i.zero = some (.agg #[.int .i64 0, .int .i64 0, .int .i64 0]) ∧ i.size = 3 ∧ i.bytes = 24 := by
  have h : (Try.prog.info? 66).map (fun i => (i.zero, i.size, i.bytes)) = some (some (.agg #[.int .i64 0, .int .i64 0, .int .i64 0]), 3, 24) := by kernel_rfl
  obtain ⟨i, hi, he⟩ := Option.map_eq_some_iff.mp h
  simp only [Prod.mk.injEq] at he
  exact ⟨i, hi, he.1, he.2.1, he.2.2⟩
theorem nC_one (T : Int × Int × Int × Nat) (j : Nat) : (nC T j).oneCell' = true := by
  unfold nC
  split
  · rfl
  · split
    · rfl
    · split <;> rfl
set_option maxHeartbeats 2000000 in
set_option maxRecDepth 20000 in
theorem copyI_any (n : Nat) (v : Value) (f : Nat → Int) (hn : n ≤ 17592186044416) (w : World) (h : Rs w v 1 n (fun i _ => .int .i64 (f i))) :
    Calls Try.prog 26 #[v] w fun e w' => ∃ v', e = .returned v' ∧ w'.ownsRow w.heap.size 3 1 v' n (rwl 1 (fun i _ => .int .i64 (f i)) n) ∧ Below w.heap.size w w' := by
  obtain ⟨i0, hi, hz0, hz1, hz2⟩ := intInf
  have HI := (show Hid _ from hi); have HZ := (show Hid _ from And.intro hz0 (And.intro hz1 hz2)); clear hi hz0 hz1 hz2
  obtain ⟨w1, hw1⟩ : ∃ x : World, x = w.alloc (.cells #[] 3) := ⟨_, rfl⟩
  have hb1 : Below w.heap.size w w1 := by rw [hw1]; exact (Below.refl _ _).alloc (Nat.le_refl _) _
  have HO : Hid (w1.ownsRow w.heap.size 3 1 (.slice (some ⟨w.heap.size, 0, none⟩) 0 0) 0 (rwl 1 (fun _ _ => undef) 0)) := by rw [hw1]; exact own_new w 3 1
  have HR : Hid (Rs w1 v 1 n (fun i _ => .int .i64 (f i))) := h.below hb1
  have HB := (show Hid (Below w.heap.size w w1) from hb1)
  obtain ⟨N, eN⟩ : ∃ N, N = w.heap.size := ⟨_, rfl⟩
  obtain ⟨oa, cn, rfl⟩ := h.shape
  clear h hb1
  go_enter Try.func26, Try.ntmps26
  go_wp2_with (first
    | (at_builtin; rw [← hw1]; refine wpList_appR _ rfl _ _ 23 rfl w.heap.size 3 i0 (.int .i64 0) 1 8 Try.underlying23 HI.out HZ.out.1 HZ.out.2.1 HZ.out.2.2 rfl (by decide) _ 0 _ rfl HO.out n _ _ rfl HR.out (fun i _ j _ => rfl) ?c1 ?c2 ?c3 ?_)
    | go_in)
  case c1 => unfold maxLen; omega
  case c2 => omega
  case c3 => exact HB.out.size
  intro v' w2 hown' hgrow hsep
  have hF : w2.ownsRow w.heap.size 3 1 v' n (rwl 1 (fun i _ => .int .i64 (f i)) n) := by simpa only [Nat.zero_add, Nat.not_lt_zero, if_false, Nat.sub_zero] using hown'
  have HF : Hid (w2.ownsRow w.heap.size 3 1 v' n (rwl 1 (fun i _ => .int .i64 (f i)) n)) := hF
  clear hF
  have HBF : Hid (Below w.heap.size w w2) := HB.out.grown (by rw [hw1]; exact hgrow) HB.out.size (fun j hj => own_ge HO.out hj)
  clear hown' hgrow hsep
  go_wp2
  go_ret
  exact ⟨_, rfl, HF.out, HBF.out⟩
set_option maxHeartbeats 2000000 in
set_option maxRecDepth 20000 in
theorem copyN_any (n : Nat) (v : Value) (f : Nat → Int × Int × Int × Nat) (hn : n ≤ 2513169434916) (w : World) (h : Rs w v 7 n (fun i => nC (f i))) :
    Calls Try.prog 24 #[v] w fun e w' => ∃ v', e = .returned v' ∧ w'.ownsRow w.heap.size 49 7 v' n (rwl 7 (fun i => nC (f i)) n) ∧ Below w.heap.size w w' := by
  obtain ⟨i0, hi, hz0, hz1, hz2⟩ := nodeInf
  have HI := (show Hid _ from hi); have HZ := (show Hid _ from And.intro hz0 (And.intro hz1 hz2)); clear hi hz0 hz1 hz2
  obtain ⟨w1, hw1⟩ : ∃ x : World, x = w.alloc (.cells #[] 49) := ⟨_, rfl⟩
  have hb1 : Below w.heap.size w w1 := by rw [hw1]; exact (Below.refl _ _).alloc (Nat.le_refl _) _
  have HO : Hid (w1.ownsRow w.heap.size 49 7 (.slice (some ⟨w.heap.size, 0, none⟩) 0 0) 0 (rwl 7 (fun _ _ => undef) 0)) := by rw [hw1]; exact own_new w 49 7
  have HR : Hid (Rs w1 v 7 n (fun i => nC (f i))) := h.below hb1
  have HB := (show Hid (Below w.heap.size w w1) from hb1)
  obtain ⟨N, eN⟩ : ∃ N, N = w.heap.size := ⟨_, rfl⟩
  obtain ⟨oa, cn, rfl⟩ := h.shape
  clear h hb1
  go_enter Try.func24, Try.ntmps24
  go_wp2_with (first
    | (at_builtin; rw [← hw1]; refine wpList_appR _ rfl _ _ 22 rfl w.heap.size 49 i0 (.agg #[.int .i64 0, .int .i64 0, .int .i64 0, .int .u64 0, .int .u64 0, .int .u64 0, .int .u64 0]) 7 56 Try.underlying22 HI.out HZ.out.1 HZ.out.2.1 HZ.out.2.2 rfl (by decide) _ 0 _ rfl HO.out n _ _ rfl HR.out (fun i _ j _ => nC_one _ _) ?c1 ?c2 ?c3 ?_)
    | go_in)
  case c1 => unfold maxLen; omega
  case c2 => omega
  case c3 => exact HB.out.size
  intro v' w2 hown' hgrow hsep
  have hF : w2.ownsRow w.heap.size 49 7 v' n (rwl 7 (fun i => nC (f i)) n) := by simpa only [Nat.zero_add, Nat.not_lt_zero, if_false, Nat.sub_zero] using hown'
  have HF : Hid (w2.ownsRow w.heap.size 49 7 v' n (rwl 7 (fun i => nC (f i)) n)) := hF
  clear hF
  have HBF : Hid (Below w.heap.size w w2) := HB.out.grown (by rw [hw1]; exact hgrow) HB.out.size (fun j hj => own_ge HO.out hj)
  clear hown' hgrow hsep
  go_wp2
  go_ret
  exact ⟨_, rfl, HF.out, HBF.out⟩
set_option maxHeartbeats 2000000 in
set_option maxRecDepth 20000 in
theorem copyI_zero (a : Addr) (c : Nat) (f : Nat → Int) (w : World) :
    Calls Try.prog 26 #[.slice (some a) 0 c] w fun e w' => ∃ v', e = .returned v' ∧ w'.ownsRow w.heap.size 3 1 v' 0 (rwl 1 (fun i _ => .int .i64 (f i)) 0) ∧ Below w.heap.size w w' := by
  obtain ⟨i0, hi, hz0, hz1, hz2⟩ := intInf
  have HI := (show Hid _ from hi); have HZ := (show Hid _ from And.intro hz0 (And.intro hz1 hz2)); clear hi hz0 hz1 hz2
  obtain ⟨w1, hw1⟩ : ∃ x : World, x = w.alloc (.cells #[] 3) := ⟨_, rfl⟩
  have hb1 : Below w.heap.size w w1 := by rw [hw1]; exact (Below.refl _ _).alloc (Nat.le_refl _) _
  have HO : Hid (w1.ownsRow w.heap.size 3 1 (.slice (some ⟨w.heap.size, 0, none⟩) 0 0) 0 (rwl 1 (fun i _ => .int .i64 (f i)) 0)) := by rw [hw1]; exact own_new w 3 1
  have HB := (show Hid (Below w.heap.size w w1) from hb1)
  clear hb1
  go_enter Try.func26, Try.ntmps26
  go_wp2_with (first
    | (at_builtin; rw [← hw1]; refine wpList_app0 _ rfl _ _ 23 rfl w.heap.size 3 i0 (.int .i64 0) 1 8 Try.underlying23 HI.out HZ.out.1 HZ.out.2.1 HZ.out.2.2 rfl (by decide) _ 0 _ rfl HO.out a c rfl (by decide) (by decide) HB.out.size ?_)
    | go_in)
  intro v' w2 hown' hgrow
  have HF : Hid (w2.ownsRow w.heap.size 3 1 v' 0 (rwl 1 (fun i _ => .int .i64 (f i)) 0)) := hown'
  have HBF : Hid (Below w.heap.size w w2) := HB.out.grown (by rw [hw1]; exact hgrow) HB.out.size (fun j hj => own_ge HO.out hj)
  clear hown' hgrow
  go_wp2
  go_ret
  exact ⟨_, rfl, HF.out, HBF.out⟩
/-- A list of numbers; where it is empty, nothing is said of the place. -/
def Zq (w : World) (v : Value) (n : Nat) (f : Nat → Int) : Prop := Zs w v n f ∨ (n = 0 ∧ ∃ a c, v = .slice (some a) 0 c)
theorem Zq.below {w w' : World} {v : Value} {n : Nat} {f : Nat → Int} (h : Zq w v n f) (hb : Below w.heap.size w w') : Zq w' v n f := h.elim (fun h => Or.inl (h.below hb)) Or.inr
theorem Zq.shape {w : World} {v : Value} {n : Nat} {f : Nat → Int} (h : Zq w v n f) : ∃ oa c, v = .slice oa n c := by
  rcases h with h | ⟨rfl, a, c, rfl⟩
  · exact Rs.shape h
  · exact ⟨_, _, rfl⟩
theorem copyI_q (n : Nat) (v : Value) (f : Nat → Int) (hn : n ≤ 17592186044416) (w : World) (h : Zq w v n f) :
    Calls Try.prog 26 #[v] w fun e w' => ∃ v', e = .returned v' ∧ w'.ownsRow w.heap.size 3 1 v' n (rwl 1 (fun i _ => .int .i64 (f i)) n) ∧ Below w.heap.size w w' := by
  rcases h with h | ⟨rfl, a, c, rfl⟩
  · exact copyI_any n v f hn w h
  · exact copyI_zero a c f w

end Go.Proofs.Ytbhljgenicahoaa
