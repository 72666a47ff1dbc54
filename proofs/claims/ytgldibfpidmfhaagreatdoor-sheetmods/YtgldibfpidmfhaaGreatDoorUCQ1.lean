/- Queries: held against each other, sets of them. No walk. -/
import Derived.Test.YtgldibfpidmfhaaGreatDoorULF
import Derived.ChangeKeysEq
namespace Go.Proofs.YtgldibfpidmfhaaGreatDoor
open Go.RowKit
open Go.Maps
/-- A query's three cells. -/
def qC (q : Int × Int × Int) (j : Nat) : Value := if j = 0 then .int .i64 q.1 else if j = 1 then .int .i64 q.2.1 else .int .i64 q.2.2
theorem qC_one (q : Int × Int × Int) (j : Nat) : (qC q j).oneCell' = true := by
  unfold qC
  split
  · rfl
  · split <;> rfl
/-- A list of queries. -/
def Qs (w : World) (v : Value) (n : Nat) (Q : Nat → Int × Int × Int) : Prop := Rs w v 3 n (fun i => qC (Q i))
theorem Qs.below {w w' : World} {v : Value} {n : Nat} {Q : Nat → Int × Int × Int} (h : Qs w v n Q) (hb : Below w.heap.size w w') : Qs w' v n Q := Rs.below h hb
theorem part3_at (a0 a1 a2 : Int) (w : World) :
    (part 3 #[.int .i64 a0, .int .i64 a1, .int .i64 a2] 0).run Tryz.prog w = .ok (.int .i64 a0) w ∧ (part 3 #[.int .i64 a0, .int .i64 a1, .int .i64 a2] 1).run Tryz.prog w = .ok (.int .i64 a1) w ∧ (part 3 #[.int .i64 a0, .int .i64 a1, .int .i64 a2] 2).run Tryz.prog w = .ok (.int .i64 a2) w :=
  ⟨by kernel_rfl, by kernel_rfl, by kernel_rfl⟩
theorem list3s {α : Type} (l : List α) (h : l.length = 3) : ∃ a b c, l = [a, b, c] := by
  match l, h with
  | [a, b, c], _ => exact ⟨a, b, c, rfl⟩
theorem rowQry : (118 : TypeId) < Tryz.prog.types.size := of_decide_eq_true (by kernel_rfl)
theorem lawQ : Keyed Tryz.prog 118 := Keyed.of_law (deep_law_laid laidOutT (m := 3) (by omega) rowQry (by kernel_rfl) (by kernel_rfl))
def kyQ (q : Int × Int × Int) : Lit := .string (keyBytes [.int .i64 q.1, .int .i64 q.2.1, .int .i64 q.2.2])
def rngQ (q : Int × Int × Int) : Prop := rng q.1 ∧ rng q.2.1 ∧ rng q.2.2
theorem keyOf_qry (q : Int × Int × Int) (hq : rngQ q) : keyOf Tryz.prog 118 (.agg #[.int .i64 q.1, .int .i64 q.2.1, .int .i64 q.2.2]) = some (kyQ q) := by
  have wa : (Lit.int .i64 q.1).wf = true := WalkArith.wf_i64 hq.1
  have wb : (Lit.int .i64 q.2.1).wf = true := WalkArith.wf_i64 hq.2.1
  have wc : (Lit.int .i64 q.2.2).wf = true := WalkArith.wf_i64 hq.2.2
  have hkt : Tryz.prog.keyType 118 = true := by kernel_rfl
  have hc3 : Tryz.prog.cellsOf 118 = 3 := by kernel_rfl
  have hc1 : Tryz.prog.cellsOf 3 = 1 := by kernel_rfl
  obtain ⟨m, hm⟩ : ∃ m, Tryz.prog.types.size = m + 1 := ⟨Tryz.prog.types.size - 1, by have h : (118 : Nat) < Tryz.prog.types.size := rowQry; omega⟩
  unfold keyOf
  simp only [Tryz.underlying118]
  rw [if_pos (by simp [hkt, Value.formed, Tryz.underlying118, hc3]), hm]
  unfold Program.keyLits
  simp only [Tryz.underlying118, Value.cells]
  rw [if_pos (by rw [hc3]; simp)]
  simp [Program.keyLits, Tryz.underlying3, wa, wb, wc, hc1, kyQ, keyBytes]
theorem kyQ_inj {p q : Int × Int × Int} (hp : rngQ p) (hq : rngQ q) (h : kyQ p = kyQ q) : p = q := by
  have h1 := keyOf_qry p hp
  have h2 := keyOf_qry q hq
  rw [← h] at h2
  have h3 := lawQ.inj h1 h2
  obtain ⟨a, b, c⟩ := p
  obtain ⟨x, y, z⟩ := q
  cases h3
  rfl
/-- Block b is the set of the queries for which M says yes; it has at most n. -/
def SetQ (w : World) (b n : Nat) (M : Int × Int × Int → Bool) : Prop :=
  ∃ D : DataW Unit, w.ownsMap Tryz.prog 118 unitElem b n D ∧ IsMap D ∧ ∀ q, rngQ q → Maps.has D (kyQ q) = M q
theorem SetQ.keep {w w' : World} {b n : Nat} {M : Int × Int × Int → Bool} (h : SetQ w b n M) (hb : w'.heap[b]? = w.heap[b]?) : SetQ w' b n M := by
  obtain ⟨D, ⟨es, clock, hb', F, hs, hD⟩, h2⟩ := h
  exact ⟨D, ⟨es, clock, hb.trans hb', F, hs, hD⟩, h2⟩
theorem SetQ.lt {w : World} {b n : Nat} {M : Int × Int × Int → Bool} (h : SetQ w b n M) : b < w.heap.size := by
  obtain ⟨D, h1, _⟩ := h
  exact h1.lt
theorem SetQ.below {w w' : World} {b n : Nat} {M : Int × Int × Int → Bool} (h : SetQ w b n M) (hb : Below w.heap.size w w') : SetQ w' b n M := h.keep (hb.block b h.lt)
theorem SetQ.made (w : World) : SetQ (w.alloc (.map #[] 0)) w.heap.size 0 (fun _ => false) :=
  ⟨.map [], World.ownsMap_made w Tryz.prog _ _, isMap_empty, fun _ _ => rfl⟩
theorem SetQ.look {w : World} {b n : Nat} {M : Int × Int × Int → Bool} (h : SetQ w b n M) (q : Int × Int × Int) (hq : rngQ q) :
    (Instr.lookup 145 (.map (some b)) (.agg #[.int .i64 q.1, .int .i64 q.2.1, .int .i64 q.2.2]) true).run Tryz.prog w = .ok (.tuple #[.agg #[], .bool (M q)]) w := by
  obtain ⟨D, h1, _, h3⟩ := h
  obtain ⟨v, ps, hrun, hv⟩ := h1.look_ok lawQ Tryz.underlying145 (zeroU w) unitElem_mk (keyOf_qry q hq)
  obtain ⟨rfl, _⟩ := unitElem_inv hv
  rw [h3 q hq] at hrun
  exact hrun
theorem SetQ.put {w : World} {b n : Nat} {M : Int × Int × Int → Bool} (h : SetQ w b n M) (hn : n < 1000000000) (q : Int × Int × Int) (hq : rngQ q) :
    ∃ w', (Instr.mapUpdate 145 (.map (some b)) (.agg #[.int .i64 q.1, .int .i64 q.2.1, .int .i64 q.2.2]) (.agg #[])).run Tryz.prog w = .ok () w' ∧ SetQ w' b (n + 1) (fun p => M p || decide (p = q)) ∧ w.grownBy w' (some b) := by
  obtain ⟨D, h1, h2, h3⟩ := h
  obtain ⟨w', hr, ho, hg⟩ := h1.update lawQ Tryz.underlying145 (by unfold maxLen; omega) (keyOf_qry q hq) unitElem_mk
  refine ⟨w', hr, ⟨_, ho, h2.put _ _, fun p hp => ?_⟩, hg⟩
  dsimp only
  by_cases he : p = q
  · rw [decide_eq_true he, Bool.or_true, he]
    exact has_put_same h2 (by simp [kyQ, WideAt.IsKeyLit]) _
  · rw [has_put_other (fun e => he (kyQ_inj hp hq e)), h3 p hp, decide_eq_false he, Bool.or_false]
end Go.Proofs.YtgldibfpidmfhaaGreatDoor
