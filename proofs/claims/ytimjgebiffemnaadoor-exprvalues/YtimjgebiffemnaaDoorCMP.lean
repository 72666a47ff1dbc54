/- The map of a circuit's three counts, by their kinds. No walk. -/
import Derived.Test.YtimjgebiffemnaaDoorCCN
import Derived.Maps.OwnSet
import Derived.Maps.OwnOps
namespace Go.Proofs.YtimjgebiffemnaaDoor
open Go.RowKit
open Go.Maps

theorem lawI : Keyed Tryd.prog 3 := int_keyed Tryd.underlying3
theorem zeroI (w : World) : (zeroValue 3).run Tryd.prog w = .ok (.int .i64 0) w := by kernel_rfl
/-- An entry of a map that is written out, as an operation. -/
theorem wpList_insert_own {H : Type} {P : Program} (w : World) {ops : Array Oper} {rest : List Oper} {o : Oper} {a : Act} {Q : Exit → Act → World → Prop}
    (hg : o.guard = none) (m x v : Operand) (t : TypeId) (hop : o.op = Op.insert t m x v)
    (k e : TypeId) (K : Keyed P k) (ht : P.underlying t = some (.map k e)) (R : Value → Option (DataW H × List MemPlace)) (b n : Nat) (D : DataW H)
    (hm : a.eval m = .map (some b)) (hown : w.ownsMap P k R b n D) (hn : n < maxLen) (key val : Value) (kl : Lit) (hx : a.eval x = key) (hv : a.eval v = val) (hkey : keyOf P k key = some kl)
    (d : DataW H) (ps : List MemPlace) (hval : R val = some (d, ps))
    (hK : ∀ w', w'.ownsMap P k R b (n + 1) (D.put kl d) → w.grownBy w' (some b) → wpList P ops Q rest (a.put o.dst undef) w') :
    wpList P ops Q (o :: rest) a w := by
  refine wpList_plain hg fun K' hK' => ?_
  obtain ⟨w', hrun, r1, r2⟩ := hown.update K ht hn hkey hval
  unfold Oper.wp
  simp [execOp, hop, hm, hx, hv, hrun, Result.andThen]
  exact hK' _ _ (hK w' r1 r2)
theorem own_map_below {H : Type} {P : Program} {k : TypeId} {R : Value → Option (DataW H × List MemPlace)} {w w' : World} {b n : Nat} {D : DataW H} (h : w.ownsMap P k R b n D) (hb : Below w.heap.size w w') : w'.ownsMap P k R b n D := by
  have hlt := h.lt
  obtain ⟨es, clock, hb', F, hs, hD⟩ := h
  exact ⟨es, clock, (hb.block b hlt).trans hb', F, hs, hD⟩
def rng (x : Int) : Prop := -9223372036854775808 ≤ x ∧ x ≤ 9223372036854775807
/-- The counts by their kinds, as data. -/
def colD1 (F : Int) : DataW Unit := (DataW.map []).put (.int .i64 2) (.lit (.int .i64 F))
def colD2 (F A : Int) : DataW Unit := (colD1 F).put (.int .i64 3) (.lit (.int .i64 A))
def colD (F A I : Int) : DataW Unit := (colD2 F A).put (.int .i64 4) (.lit (.int .i64 I))
def colOf (F A I k : Int) : Int := if k = 2 then F else if k = 3 then A else if k = 4 then I else 0
theorem isMap1 (F : Int) : IsMap (colD1 F) := isMap_empty.put _ _
theorem isMap2 (F A : Int) : IsMap (colD2 F A) := (isMap1 F).put _ _
theorem lit_ne {a b : Int} (h : ¬ a = b) : (Lit.int .i64 a) ≠ (Lit.int .i64 b) := fun e => by cases e; exact h rfl
theorem colD_at (F A I k : Int) : (colD F A I).atKey (.int .i64 k) (.lit (.int .i64 0)) = .lit (.int .i64 (colOf F A I k)) := by
  unfold colOf
  by_cases h4 : k = 4
  · subst h4
    rw [if_neg (by decide), if_neg (by decide), if_pos rfl]
    exact atKey_put_same (isMap2 F A) (by simp [WideAt.IsKeyLit]) _ _
  · rw [colD, atKey_put_other (lit_ne h4)]
    by_cases h3 : k = 3
    · subst h3
      rw [if_neg (by decide), if_pos rfl]
      exact atKey_put_same (isMap1 F) (by simp [WideAt.IsKeyLit]) _ _
    · rw [colD2, atKey_put_other (lit_ne h3)]
      by_cases h2 : k = 2
      · subst h2
        rw [if_pos rfl]
        exact atKey_put_same isMap_empty (by simp [WideAt.IsKeyLit]) _ _
      · rw [if_neg h2, if_neg h3, if_neg h4, colD1, atKey_put_other (lit_ne h2)]
        rfl
/-- Block b is the map of the three counts. -/
def MapI (w : World) (b : Nat) (F A I : Int) : Prop := w.ownsMap (H := Unit) Tryd.prog 3 (plainElem Tryd.prog 3) b 3 (colD F A I)
theorem MapI.below {w w' : World} {b : Nat} {F A I : Int} (h : MapI w b F A I) (hb : Below w.heap.size w w') : MapI w' b F A I := own_map_below h hb
theorem MapI.lt {w : World} {b : Nat} {F A I : Int} (h : MapI w b F A I) : b < w.heap.size := World.ownsMap.lt h
theorem MapI.keep {w w' : World} {b : Nat} {F A I : Int} (h : MapI w b F A I) (hb : w'.heap[b]? = w.heap[b]?) : MapI w' b F A I := by
  obtain ⟨es, clock, hb', F, hs, hD⟩ := h
  exact ⟨es, clock, hb.trans hb', F, hs, hD⟩
theorem MapI.look {w : World} {b : Nat} {F A I : Int} (h : MapI w b F A I) (k : Int) (hk : rng k) : (Instr.lookup 57 (.map (some b)) (.int .i64 k) false).run Tryd.prog w = .ok (.int .i64 (colOf F A I k)) w := by
  obtain ⟨c, hrun, hat, _⟩ := World.ownsMap.lookup_int h lawI Tryd.underlying57 Tryd.underlying3 (zeroI w) (keyOf_int_mk Tryd.underlying3 (WalkArith.wf_i64 hk))
  rw [colD_at] at hat
  cases hat
  exact hrun

end Go.Proofs.YtimjgebiffemnaaDoor
