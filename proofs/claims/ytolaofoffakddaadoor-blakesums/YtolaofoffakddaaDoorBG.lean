/- The package's variables: what the condition on them gives the walks. -/
import Derived.Test.YtolaofoffakddaaDoorRows
import Derived.Test.YtolaofoffakddaaDoorB4
import Derived.ProofKit
import Derived.LaidMore
import Derived.OpenShut
import Derived.Stop.Joined
namespace Go.Proofs.YtolaofoffakddaaDoor
open Go.ChangeShapes Go.WideShapes Go.ChangeAt Go.WideMaps Go.WideElems Go.RowKit

theorem gFirst : Tryd.prog.globalNamed "sigil/blake.firstWords" = some 0 := by kernel_rfl
theorem gOrd : Tryd.prog.globalNamed "sigil/blake.orders" = some 1 := by kernel_rfl
theorem tFirst : (Tryd.prog.globals[0]?).map (·.type) = some 39 := by kernel_rfl
theorem tOrd : (Tryd.prog.globals[1]?).map (·.type) = some 62 := by kernel_rfl
theorem cU : Tryd.prog.cellsOf 38 = 1 := by kernel_rfl
theorem cY : Tryd.prog.cellsOf 5 = 1 := by kernel_rfl
theorem cR : Tryd.prog.cellsOf 61 = 16 := by kernel_rfl

section
variable {H : Type} {enc : TypeId × Value → H} {W : World} {base : Nat} {sp : Nat → Bool} {held : Bool} {fuel : Nat} {cs : List Value} {x : DataW H × List MemPlace}
theorem get1 (i : Nat) {v : Value} (h : (cs.drop i).take 1 = [v]) : cs[i]? = some v := by
  have e := congrArg (fun l => l[0]?) h
  simpa [List.getElem?_drop] using e
theorem openWords (L : List Int) (hL : L.length = 8) (h : DataW.trod enc Tryd.prog W base sp held fuel 39 cs = some x) (hx : x.1 = .agg (L.map (fun z => .lit (.int .u64 z)))) :
    ∀ i, i < 8 → cs[i]? = (L[i]?).map (fun z => Value.int .u64 z) := by
  obtain ⟨xs, m, rfl, rfl, hlen, hxl, hel⟩ := DataW.trod_array Tryd.underlying39 h
  intro i hi
  have g := hel i hi
  rw [cU, Nat.mul_one] at g
  simp only [DataW.agg.injEq] at hx
  have k := congrArg (fun l => l[i]?) hx
  simp only [List.getElem?_map] at k
  obtain ⟨y, hy⟩ : ∃ y, xs[i]? = some y := ⟨_, List.getElem?_eq_getElem (by omega)⟩
  obtain ⟨z, hz⟩ : ∃ z, L[i]? = some z := ⟨_, List.getElem?_eq_getElem (by omega)⟩
  rw [hy] at g k
  rw [hz] at k ⊢
  simp only [Option.map_some, Option.some.injEq] at k
  obtain ⟨n, e, rfl, _⟩ := DataW.trod_int Tryd.underlying38 g
  simp only [DataW.lit.injEq, Lit.int.injEq, true_and] at k
  rw [Option.map_some, get1 i e, k]
theorem openRow (L : List Int) (hL : L.length = 16) (h : DataW.trod enc Tryd.prog W base sp held fuel 61 cs = some x) (hx : x.1 = .agg (L.map (fun z => .lit (.int .u8 z)))) :
    ∀ i, i < 16 → cs[i]? = (L[i]?).map (fun z => Value.int .u8 z) := by
  obtain ⟨xs, m, rfl, rfl, hlen, hxl, hel⟩ := DataW.trod_array Tryd.underlying61 h
  intro i hi
  have g := hel i hi
  rw [cY, Nat.mul_one] at g
  simp only [DataW.agg.injEq] at hx
  have k := congrArg (fun l => l[i]?) hx
  simp only [List.getElem?_map] at k
  obtain ⟨y, hy⟩ : ∃ y, xs[i]? = some y := ⟨_, List.getElem?_eq_getElem (by omega)⟩
  obtain ⟨z, hz⟩ : ∃ z, L[i]? = some z := ⟨_, List.getElem?_eq_getElem (by omega)⟩
  rw [hy] at g k
  rw [hz] at k ⊢
  simp only [Option.map_some, Option.some.injEq] at k
  obtain ⟨n, e, rfl, _⟩ := DataW.trod_int Tryd.underlying5 g
  simp only [DataW.lit.injEq, Lit.int.injEq, true_and] at k
  rw [Option.map_some, get1 i e, k]
theorem openTable (T : List (List Int)) (hT : T.length = 10) (hR : ∀ (r : Nat) (L : List Int), T[r]? = some L → L.length = 16) (h : DataW.trod enc Tryd.prog W base sp held fuel 62 cs = some x) (hx : x.1 = .agg (T.map (fun L => .agg (L.map (fun z => .lit (.int .u8 z)))))) :
    ∀ r i, r < 10 → i < 16 → cs[r * 16 + i]? = ((T[r]?).bind (fun L => L[i]?)).map (fun z => Value.int .u8 z) := by
  obtain ⟨xs, m, rfl, rfl, hlen, hxl, hel⟩ := DataW.trod_array Tryd.underlying62 h
  intro r i hr hi
  have g := hel r hr
  rw [cR] at g
  simp only [DataW.agg.injEq] at hx
  have k := congrArg (fun l => l[r]?) hx
  simp only [List.getElem?_map] at k
  obtain ⟨y, hy⟩ : ∃ y, xs[r]? = some y := ⟨_, List.getElem?_eq_getElem (by omega)⟩
  obtain ⟨L, hz⟩ : ∃ L, T[r]? = some L := ⟨_, List.getElem?_eq_getElem (by omega)⟩
  rw [hy] at g k
  rw [hz] at k ⊢
  simp only [Option.map_some, Option.some.injEq] at k
  have e := openRow L (hR r L hz) g k i hi
  rw [Option.bind_some, ← e]
  simp [List.getElem?_drop, hi]
end

def laidF : List (String × DataW Unit) := [("sigil/blake.firstWords", Rows.laid_sigil_blake_firstWords), ("sigil/blake.orders", Rows.laid_sigil_blake_orders)]

set_option maxRecDepth 100000 in
/-- What the condition on the variables gives. -/
theorem glob_of_laid {W : World} (h : laidMetH Tryd.prog laidF W) : GlobB W := by
  rw [MakeChecks.laidMetH_plain _ _ _ (by kernel_rfl)] at h
  obtain ⟨ps, ⟨g0, t0, cs0, f0, p0, q0, hg0, ht0, hv0, hd0, ⟨g1, t1, cs1, f1, p1, q1, hg1, ht1, hv1, hd1, _, _⟩, _⟩, _, _⟩ := h
  obtain rfl := Option.some.inj (gFirst.symm.trans hg0)
  obtain rfl := Option.some.inj (gOrd.symm.trans hg1)
  obtain rfl := Option.some.inj (tFirst.symm.trans ht0)
  obtain rfl := Option.some.inj (tOrd.symm.trans ht1)
  have cell0 : ∀ k, W.cell? ⟨0, k, none⟩ = cs0.toList[k]? := fun k => by rw [World.var?_cell hg0 hv0 k]; simp
  have cell1 : ∀ k, W.cell? ⟨1, k, none⟩ = cs1.toList[k]? := fun k => by rw [World.var?_cell hg1 hv1 k]; simp
  have e0 := openWords (ivL.map (fun (n : Nat) => ((n : Nat) : Int))) (by decide) hd0 (by rfl)
  have e1 := openTable (sigRows.map (fun l => l.map (fun (n : Nat) => ((n : Nat) : Int)))) (by decide) (fun r L hL => by
    have hm := List.mem_of_getElem? hL
    have : ∀ L ∈ sigRows.map (fun l => l.map (fun (n : Nat) => ((n : Nat) : Int))), L.length = 16 := by decide
    exact this L hm) hd1 (by rfl)
  have hw : 1 < W.heap.size := World.block_lt_of_cell? W ⟨1, 0, none⟩ ((cell1 0).trans (e1 0 0 (by decide) (by decide)))
  refine ⟨by omega, fun i hi => ?_, fun r i hr hi => ?_⟩
  · rw [cell0 i, e0 i hi]
    exact case8 (P := fun i => ((ivL.map (fun (n : Nat) => ((n : Nat) : Int)))[i]?).map (fun z => Value.int .u64 z) = some (.int .u64 ((ivW i : Nat) : Int))) rfl rfl rfl rfl rfl rfl rfl rfl i hi
  · rw [cell1 (r * 16 + i), e1 r i hr hi]
    have key : ∀ r, r < 10 → ∀ i, i < 16 → ((sigRows.map (fun l => l.map (fun (n : Nat) => ((n : Nat) : Int))))[r]?).bind (fun L => L[i]?) = some ((sig r i : Nat) : Int) := by decide
    rw [key r hr i hi]
    rfl

end Go.Proofs.YtolaofoffakddaaDoor
