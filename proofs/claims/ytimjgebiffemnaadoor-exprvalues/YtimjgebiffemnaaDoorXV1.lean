/- Maps from queries to elements; (setting).has. -/
import Derived.Test.YtimjgebiffemnaaDoorCQ1
import Derived.Test.YtimjgebiffemnaaDoorL1
namespace Go.Proofs.YtimjgebiffemnaaDoor
open Go.RowKit
open Go.Maps

/-- An element as data. -/
def elD (x : Nat) : DataW Unit := .agg [.lit (.int .u64 ((limb 0 x : Nat) : Int)), .lit (.int .u64 ((limb 1 x : Nat) : Int)), .lit (.int .u64 ((limb 2 x : Nat) : Int)), .lit (.int .u64 ((limb 3 x : Nat) : Int))]
/-- How a map's element reads. -/
def elemR : Value → Option (DataW Unit × List MemPlace)
  | .agg cs => match cs.toList with
    | [.int .u64 a, .int .u64 b, .int .u64 c, .int .u64 d] => some (.agg [.lit (.int .u64 a), .lit (.int .u64 b), .lit (.int .u64 c), .lit (.int .u64 d)], [])
    | _ => none
  | _ => none
theorem elemR_mk (x : Nat) : elemR (.agg #[.int .u64 ((limb 0 (x) : Nat) : Int), .int .u64 ((limb 1 (x) : Nat) : Int), .int .u64 ((limb 2 (x) : Nat) : Int), .int .u64 ((limb 3 (x) : Nat) : Int)]) = some (elD x, []) := rfl
theorem elemR_inv {v : Value} {x : Nat} {ps : List MemPlace} (h : elemR v = some (elD x, ps)) : v = .agg #[.int .u64 ((limb 0 (x) : Nat) : Int), .int .u64 ((limb 1 (x) : Nat) : Int), .int .u64 ((limb 2 (x) : Nat) : Int), .int .u64 ((limb 3 (x) : Nat) : Int)] := by
  unfold elemR at h
  split at h
  · next cs =>
    split at h
    · next a b c d hl =>
      unfold elD at h
      simp only [Option.some.injEq, Prod.mk.injEq, DataW.agg.injEq, List.cons.injEq, DataW.lit.injEq, Lit.int.injEq, and_true, true_and] at h
      obtain ⟨⟨rfl, rfl, rfl, rfl⟩, _⟩ := h
      have : cs = cs.toList.toArray := by simp
      rw [this, hl]
    · cases h
  · cases h
theorem zeroEl (w : World) : (zeroValue 44).run Tryd.prog w = .ok (.agg #[.int .u64 ((limb 0 (0) : Nat) : Int), .int .u64 ((limb 1 (0) : Nat) : Int), .int .u64 ((limb 2 (0) : Nat) : Int), .int .u64 ((limb 3 (0) : Nat) : Int)]) w := by
  have h : (zeroValue 44).run Tryd.prog w = .ok (.agg #[.int .u64 0, .int .u64 0, .int .u64 0, .int .u64 0]) w := by kernel_rfl
  rw [h]
  rw [limb_zero, limb_zero, limb_zero, limb_zero]
  rfl
/-- Block b maps the queries q to the numbers M q; it has at most n entries. -/
def MapE (w : World) (b n : Nat) (M : Int × Int × Int → Option Nat) : Prop :=
  ∃ D : DataW Unit, w.ownsMap Tryd.prog 51 elemR b n D ∧ IsMap D ∧ ∀ q, rngQ q → Maps.has D (kyQ q) = (M q).isSome ∧ D.atKey (kyQ q) (elD 0) = elD ((M q).getD 0)
section
variable {w w' : World} {b n : Nat} {M : Int × Int × Int → Option Nat}
theorem MapE.keep (h : MapE w b n M) (hb : w'.heap[b]? = w.heap[b]?) : MapE w' b n M := by
  obtain ⟨D, ⟨es, clock, hb', F, hs, hD⟩, h2⟩ := h
  exact ⟨D, ⟨es, clock, hb.trans hb', F, hs, hD⟩, h2⟩
theorem MapE.lt (h : MapE w b n M) : b < w.heap.size := by
  obtain ⟨D, h1, _⟩ := h
  exact h1.lt
theorem MapE.below (h : MapE w b n M) (hb : Below w.heap.size w w') : MapE w' b n M := h.keep (hb.block b h.lt)
theorem MapE.mono (h : MapE w b n M) {m : Nat} (hm : n ≤ m) : MapE w b m M := by
  obtain ⟨D, h1, h2⟩ := h
  exact ⟨D, h1.mono hm, h2⟩
theorem MapE.made (w : World) : MapE (w.alloc (.map #[] 0)) w.heap.size 0 (fun _ => none) :=
  ⟨.map [], World.ownsMap_made w Tryd.prog _ _, isMap_empty, fun _ _ => ⟨rfl, rfl⟩⟩
theorem MapE.look (h : MapE w b n M) (q : Int × Int × Int) (hq : rngQ q) :
    (Instr.lookup 79 (.map (some b)) (.agg #[.int .i64 q.1, .int .i64 q.2.1, .int .i64 q.2.2]) true).run Tryd.prog w = .ok (.tuple #[.agg #[.int .u64 ((limb 0 ((M q).getD 0) : Nat) : Int), .int .u64 ((limb 1 ((M q).getD 0) : Nat) : Int), .int .u64 ((limb 2 ((M q).getD 0) : Nat) : Int), .int .u64 ((limb 3 ((M q).getD 0) : Nat) : Int)], .bool (M q).isSome]) w := by
  obtain ⟨D, h1, _, h3⟩ := h
  obtain ⟨v, ps, hrun, hv⟩ := h1.look_ok lawQ Tryd.underlying79 (zeroEl w) (elemR_mk 0) (keyOf_qry q hq)
  rw [(h3 q hq).2] at hv
  rw [(h3 q hq).1, elemR_inv hv] at hrun
  exact hrun
theorem MapE.look1 (h : MapE w b n M) (q : Int × Int × Int) (hq : rngQ q) :
    (Instr.lookup 79 (.map (some b)) (.agg #[.int .i64 q.1, .int .i64 q.2.1, .int .i64 q.2.2]) false).run Tryd.prog w = .ok (.agg #[.int .u64 ((limb 0 ((M q).getD 0) : Nat) : Int), .int .u64 ((limb 1 ((M q).getD 0) : Nat) : Int), .int .u64 ((limb 2 ((M q).getD 0) : Nat) : Int), .int .u64 ((limb 3 ((M q).getD 0) : Nat) : Int)]) w := by
  obtain ⟨D, h1, _, h3⟩ := h
  obtain ⟨v, ps, hrun, hv⟩ := h1.lookup lawQ Tryd.underlying79 (zeroEl w) (elemR_mk 0) (keyOf_qry q hq)
  rw [(h3 q hq).2] at hv
  rw [elemR_inv hv] at hrun
  exact hrun
theorem MapE.put (h : MapE w b n M) (hn : n < 1000000000) (q : Int × Int × Int) (hq : rngQ q) (x : Nat) :
    ∃ w', (Instr.mapUpdate 79 (.map (some b)) (.agg #[.int .i64 q.1, .int .i64 q.2.1, .int .i64 q.2.2]) (.agg #[.int .u64 ((limb 0 (x) : Nat) : Int), .int .u64 ((limb 1 (x) : Nat) : Int), .int .u64 ((limb 2 (x) : Nat) : Int), .int .u64 ((limb 3 (x) : Nat) : Int)])).run Tryd.prog w = .ok () w' ∧ MapE w' b (n + 1) (fun p => if p = q then some x else M p) ∧ w.grownBy w' (some b) := by
  obtain ⟨D, h1, h2, h3⟩ := h
  obtain ⟨w', hr, ho, hg⟩ := h1.update lawQ Tryd.underlying79 (by unfold maxLen; omega) (keyOf_qry q hq) (elemR_mk x)
  refine ⟨w', hr, ⟨_, ho, h2.put _ _, fun p hp => ?_⟩, hg⟩
  dsimp only
  by_cases he : p = q
  · rw [if_pos he, he]
    exact ⟨has_put_same h2 (by simp [kyQ, WideAt.IsKeyLit]) _, atKey_put_same h2 (by simp [kyQ, WideAt.IsKeyLit]) _ _⟩
  · rw [if_neg he, has_put_other (fun e => he (kyQ_inj hp hq e)), atKey_put_other (fun e => he (kyQ_inj hp hq e))]
    exact h3 p hp
end
set_option maxHeartbeats 8000000 in
set_option maxRecDepth 100000 in
theorem has_any (s : Int) (b n : Nat) (M : Int × Int × Int → Option Nat) (q : Int × Int × Int) (hq : rngQ q) (w : World) (hm : MapE w b n M) :
    Calls Tryd.prog 38 #[.agg #[.int .i64 s, .map (some b)], .agg #[.int .i64 q.1, .int .i64 q.2.1, .int .i64 q.2.2]] w fun e w' => e = .returned (.bool (M q).isSome) ∧ Below w.heap.size w w' := by
  obtain ⟨kd, cl, rt⟩ := q
  obtain ⟨w1, ew1⟩ : ∃ x : World, x = w.alloc (.cells #[.int .i64 s, .map (some b)] 81) := ⟨_, rfl⟩
  have hb1 : Below w.heap.size w w1 := by rw [ew1]; exact bAlloc (Below.refl _ _) _
  obtain ⟨b1, eb1⟩ : ∃ x, x = w.heap.size := ⟨_, rfl⟩
  have f1 : w1.heap[b1]? = some (.cells #[.int .i64 s, .map (some b)] 81) := by rw [ew1, eb1]; show (w.heap.push _)[w.heap.size]? = _; simp
  obtain ⟨b2, eb2⟩ : ∃ x, x = w.heap.size + 1 := ⟨_, rfl⟩
  have eb2' : w1.heap.size = b2 := by rw [ew1, eb2]; simp
  obtain ⟨w2, ew2⟩ : ∃ x : World, x = w1.alloc (.cells #[.int .i64 kd, .int .i64 cl, .int .i64 rt] 51) := ⟨_, rfl⟩
  have hb12 : Below w1.heap.size w1 w2 := by rw [ew2]; exact bAlloc (Below.refl _ _) _
  have f12 := (hb12.block b1 (Array.getElem?_eq_some_iff.1 f1).1).trans f1
  have f22 : w2.heap[b2]? = some (.cells #[.int .i64 kd, .int .i64 cl, .int .i64 rt] 51) := by rw [ew2, ← eb2']; show (w1.heap.push _)[w1.heap.size]? = _; simp
  have hlk := ((hm.below hb1).below hb12).look (kd, cl, rt) hq
  dsimp only at hlk
  obtain ⟨bv, ebv⟩ : ∃ v, v = (M (kd, cl, rt)).isSome := ⟨_, rfl⟩
  obtain ⟨E, eE⟩ : ∃ v, v = (M (kd, cl, rt)).getD 0 := ⟨_, rfl⟩
  rw [← ebv, ← eE] at hlk
  rw [← ebv]
  have c1 : w2.cell? ⟨b1, 1, none⟩ = some (.map (some b)) := cell_of_block f12 1
  have c2 : w2.cell? ⟨b2, 0, none⟩ = some (.int .i64 kd) := cell_of_block f22 0
  have c3 : w2.cell? ⟨b2, 1, none⟩ = some (.int .i64 cl) := cell_of_block f22 1
  have c4 : w2.cell? ⟨b2, 2, none⟩ = some (.int .i64 rt) := cell_of_block f22 2
  have HB2 : Hid (Below w.heap.size w w2) := bStep hb1 hb12
  clear hm hb1 hb12 f1 f12 f22 ebv eE hq
  go_enter Tryd.func38, Tryd.ntmps38
  go_upto_region 1 with fail
  rw [← ew1, ← eb2, ← eb1, ← ew2]
  clear ew1 eb1 eb2 eb2' ew2
  go_wp2
  go_ret
  exact ⟨rfl, bAlloc HB2.out _⟩

end Go.Proofs.YtimjgebiffemnaaDoor
