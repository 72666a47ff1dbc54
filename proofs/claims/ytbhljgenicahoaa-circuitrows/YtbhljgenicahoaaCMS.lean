/- Sets of columns and of queries, as maps. No walk. -/
import Derived.Test.YtbhljgenicahoaaCL4
import Derived.DeepKeys4
namespace Go.Proofs.Ytbhljgenicahoaa
open Go.RowKit
open Go.Maps

theorem laidOutT : laidOutB Try.prog = true := by kernel_rfl
theorem rowCol : (64 : TypeId) < Try.prog.types.size := of_decide_eq_true (by kernel_rfl)
theorem lawC : Keyed Try.prog 64 := Keyed.of_law (deep_law_laid laidOutT (m := 3) (by omega) rowCol (by kernel_rfl) (by kernel_rfl))
theorem zeroU (w : World) : (zeroValue 92).run Try.prog w = .ok (.agg #[]) w := by kernel_rfl
def kyC (a b : Int) : Lit := .string (keyBytes [.int .i64 a, .int .i64 b])
theorem keyOf_col (a b : Int) (ha : rng a) (hb : rng b) : keyOf Try.prog 64 (.agg #[.int .i64 a, .int .i64 b]) = some (kyC a b) := by
  have wa : (Lit.int .i64 a).wf = true := WalkArith.wf_i64 ha
  have wb : (Lit.int .i64 b).wf = true := WalkArith.wf_i64 hb
  have hkt : Try.prog.keyType 64 = true := by kernel_rfl
  have hc2 : Try.prog.cellsOf 64 = 2 := by kernel_rfl
  have hc1 : Try.prog.cellsOf 3 = 1 := by kernel_rfl
  obtain ⟨m, hm⟩ : ∃ m, Try.prog.types.size = m + 1 := ⟨Try.prog.types.size - 1, by have h : (64 : Nat) < Try.prog.types.size := rowCol; omega⟩
  unfold keyOf
  simp only [Try.underlying64]
  rw [if_pos (by simp [hkt, Value.formed, Try.underlying64, hc2]), hm]
  unfold Program.keyLits
  simp only [Try.underlying64, Value.cells]
  rw [if_pos (by rw [hc2]; simp)]
  simp [Program.keyLits, Try.underlying3, wa, wb, hc1, kyC, keyBytes]
theorem kyC_inj {a b a' b' : Int} (ha : rng a) (hb : rng b) (ha' : rng a') (hb' : rng b') (h : kyC a b = kyC a' b') : (a, b) = (a', b') := by
  have h1 := keyOf_col a b ha hb
  have h2 := keyOf_col a' b' ha' hb'
  rw [← h] at h2
  have h3 := lawC.inj h1 h2
  cases h3
  rfl
/-- Block b is the set of the first i columns of E. -/
def SetC (w : World) (b i : Nat) (E : Nat → Int × Int) : Prop :=
  ∃ D : DataW Unit, w.ownsMap Try.prog 64 unitElem b i D ∧ IsMap D ∧ ∀ x y, rng x → rng y → Maps.has D (kyC x y) = decide (∃ j, j < i ∧ E j = (x, y))
theorem SetC.keep {w w' : World} {b i : Nat} {E : Nat → Int × Int} (h : SetC w b i E) (hb : w'.heap[b]? = w.heap[b]?) : SetC w' b i E := by
  obtain ⟨D, ⟨es, clock, hb', F, hs, hD⟩, h2⟩ := h
  exact ⟨D, ⟨es, clock, hb.trans hb', F, hs, hD⟩, h2⟩
theorem SetC.lt {w : World} {b i : Nat} {E : Nat → Int × Int} (h : SetC w b i E) : b < w.heap.size := by
  obtain ⟨D, h1, _⟩ := h
  exact h1.lt
theorem SetC.below {w w' : World} {b i : Nat} {E : Nat → Int × Int} (h : SetC w b i E) (hb : Below w.heap.size w w') : SetC w' b i E := h.keep (hb.block b h.lt)
theorem SetC.made (w : World) (E : Nat → Int × Int) : SetC (w.alloc (.map #[] 0)) w.heap.size 0 E :=
  ⟨.map [], World.ownsMap_made w Try.prog _ _, isMap_empty, fun x y _ _ => by
    rw [decide_eq_false (fun ⟨j, hj, _⟩ => by omega)]
    rfl⟩
theorem SetC.look {w : World} {b i : Nat} {E : Nat → Int × Int} (h : SetC w b i E) (x y : Int) (hx : rng x) (hy : rng y) :
    (Instr.lookup 120 (.map (some b)) (.agg #[.int .i64 x, .int .i64 y]) true).run Try.prog w = .ok (.tuple #[.agg #[], .bool (decide (∃ j, j < i ∧ E j = (x, y)))]) w := by
  obtain ⟨D, h1, _, h3⟩ := h
  obtain ⟨v, ps, hrun, hv⟩ := h1.look_ok lawC Try.underlying120 (zeroU w) unitElem_mk (keyOf_col x y hx hy)
  obtain ⟨rfl, _⟩ := unitElem_inv hv
  rw [h3 x y hx hy] at hrun
  exact hrun
theorem SetC.put {w : World} {b i : Nat} {E : Nat → Int × Int} (h : SetC w b i E) (hi : i < 1000000) (hE : ∀ j, j ≤ i → rng (E j).1 ∧ rng (E j).2) :
    ∃ w', (Instr.mapUpdate 120 (.map (some b)) (.agg #[.int .i64 (E i).1, .int .i64 (E i).2]) (.agg #[])).run Try.prog w = .ok () w' ∧ SetC w' b (i + 1) E ∧ w.grownBy w' (some b) := by
  obtain ⟨D, h1, h2, h3⟩ := h
  obtain ⟨w', hr, ho, hg⟩ := h1.update lawC Try.underlying120 (by unfold maxLen; omega) (keyOf_col (E i).1 (E i).2 (hE i (Nat.le_refl _)).1 (hE i (Nat.le_refl _)).2) unitElem_mk
  refine ⟨w', hr, ⟨_, ho, h2.put _ _, fun x y hx hy => ?_⟩, hg⟩
  by_cases he : E i = (x, y)
  · rw [decide_eq_true ⟨i, by omega, he⟩, he]
    exact has_put_same h2 (by simp [kyC, WideAt.IsKeyLit]) _
  · rw [has_put_other (fun e => he (by
      have h := kyC_inj hx hy (hE i (Nat.le_refl _)).1 (hE i (Nat.le_refl _)).2 e
      exact h.symm)), h3 x y hx hy]
    refine decide_eq_decide.mpr ⟨fun ⟨j, hj, hEj⟩ => ⟨j, by omega, hEj⟩, fun ⟨j, hj, hEj⟩ => ⟨j, ?_, hEj⟩⟩
    rcases Nat.lt_or_ge j i with h | h
    · exact h
    · exact absurd (by rw [show i = j by omega]; exact hEj) he

end Go.Proofs.Ytbhljgenicahoaa
