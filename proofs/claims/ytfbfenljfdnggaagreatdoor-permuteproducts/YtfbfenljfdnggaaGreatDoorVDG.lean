/- The package's variables: what the condition on them gives the walks. -/
import Derived.Test.YtfbfenljfdnggaaGreatDoorRows
import Derived.Test.YtfbfenljfdnggaaGreatDoorVFD
import Derived.Test.YtfbfenljfdnggaaGreatDoorVD3
import Derived.ProofKit
import Derived.LaidMore
import Derived.OpenShut
import Derived.Stop.Joined
namespace Go.Proofs.YtfbfenljfdnggaaGreatDoor
open Go.ChangeShapes Go.WideShapes Go.ChangeAt Go.WideMaps Go.WideElems Go.RowKit
theorem gPrimes : Tryz.prog.globalNamed "sigil/field.primes" = some 1 := by kernel_rfl
theorem gOne : Tryz.prog.globalNamed "sigil/field.one" = some 2 := by kernel_rfl
theorem tPrimes : (Tryz.prog.globals[1]?).map (·.type) = some 191 := by kernel_rfl
theorem tOne : (Tryz.prog.globals[2]?).map (·.type) = some 154 := by kernel_rfl
theorem gCons : Tryz.prog.globalNamed "sigil/domain.one" = some 0 := by kernel_rfl
theorem tCons : (Tryz.prog.globals[0]?).map (·.type) = some 25 := by kernel_rfl
theorem cU : Tryz.prog.cellsOf 23 = 1 := by kernel_rfl
theorem cI : Tryz.prog.cellsOf 3 = 1 := by kernel_rfl
theorem cT : Tryz.prog.cellsOf 154 = 4 := by kernel_rfl
theorem cTP : Tryz.prog.cellsOf 190 = 5 := by kernel_rfl
theorem uT : Tryz.prog.underlying 154 = some (.struct (Tryz.prog.fieldsOf 154)) := by kernel_rfl
theorem uTP : Tryz.prog.underlying 190 = some (.struct (Tryz.prog.fieldsOf 190)) := by kernel_rfl
theorem fieldsP : ∃ n0 n1 : Field, (Tryz.prog.fieldsOf 190).toList = [n0, n1] ∧ n0.type = 154 ∧ n1.type = 3 ∧ n0.offset = 0 ∧ n1.offset = 4 := by
  have h : (Tryz.prog.fieldsOf 190).toList.map (fun f => (f.type, f.offset)) = [(154, 0), (3, 4)] := by kernel_rfl
  have hlen : (Tryz.prog.fieldsOf 190).toList.length = 2 := by
    have := congrArg List.length h
    simpa using this
  match hl : (Tryz.prog.fieldsOf 190).toList, hlen with
  | [n0, n1], _ =>
    rw [hl] at h
    simp only [List.map_cons, List.map_nil, List.cons.injEq, Prod.mk.injEq, and_true] at h
    exact ⟨n0, n1, rfl, h.1.1, h.2.1, h.1.2, h.2.2⟩
section
variable {H : Type} {enc : TypeId × Value → H} {W : World} {base : Nat} {sp : Nat → Bool} {held : Bool} {fuel : Nat} {cs : List Value} {x : DataW H × List MemPlace}
theorem oneWord {a : Int} {y : DataW H × List MemPlace} (h : DataW.trod enc Tryz.prog W base sp held fuel 23 cs = some y) (hy : y.1 = .lit (.int .u64 a)) : cs = [.int .u64 a] := by
  obtain ⟨n, e, rfl, _⟩ := DataW.trod_int Tryz.underlying23 h
  simp only [DataW.lit.injEq, Lit.int.injEq, true_and] at hy
  rw [e, hy]
theorem oneInt {a : Int} {y : DataW H × List MemPlace} (h : DataW.trod enc Tryz.prog W base sp held fuel 3 cs = some y) (hy : y.1 = .lit (.int .i64 a)) : cs = [.int .i64 a] := by
  obtain ⟨n, e, rfl, _⟩ := DataW.trod_int Tryz.underlying3 h
  simp only [DataW.lit.injEq, Lit.int.injEq, true_and] at hy
  rw [e, hy]
theorem openNum {a0 a1 a2 a3 : Int} (h : DataW.trod enc Tryz.prog W base sp held fuel 154 cs = some x) (hx : x.1 = .agg [.lit (.int .u64 a0), .lit (.int .u64 a1), .lit (.int .u64 a2), .lit (.int .u64 a3)]) :
    cs = [.int .u64 a0, .int .u64 a1, .int .u64 a2, .int .u64 a3] := by
  obtain ⟨n0, n1, n2, n3, hl, _, _, _, _, t0, t1, t2, t3, o0, o1, o2, o3⟩ := fieldsF
  obtain ⟨xs, m, rfl, rfl, hlen, _, hf⟩ := DataW.trod_struct uT h
  rw [cT] at hlen
  obtain ⟨c0, c1, c2, c3, rfl⟩ := list4s cs hlen
  have hget : ∀ i (f : Field), (Tryz.prog.fieldsOf 154).toList[i]? = some f → DataW.trod enc Tryz.prog W base sp held m f.type (([c0, c1, c2, c3].drop f.offset).take (Tryz.prog.cellsOf f.type)) = xs[i]? := fun i f hi => hf i f (by simpa using hi)
  rw [hl] at hget
  have g0 := hget 0 n0 rfl; have g1 := hget 1 n1 rfl; have g2 := hget 2 n2 rfl; have g3 := hget 3 n3 rfl
  rw [t0, o0, cU] at g0
  rw [t1, o1, cU] at g1
  rw [t2, o2, cU] at g2
  rw [t3, o3, cU] at g3
  simp only [DataW.agg.injEq] at hx
  have hxl : xs.length = 4 := by have := congrArg List.length hx; simpa using this
  obtain ⟨y0, y1, y2, y3, rfl⟩ := list4s xs hxl
  simp only [List.map_cons, List.map_nil, List.cons.injEq, and_true] at hx
  have e0 := oneWord g0 hx.1; have e1 := oneWord g1 hx.2.1; have e2 := oneWord g2 hx.2.2.1; have e3 := oneWord g3 hx.2.2.2
  simp at e0 e1 e2 e3
  rw [e0, e1, e2, e3]
theorem get1 (i : Nat) {v : Value} (h : (cs.drop i).take 1 = [v]) : cs[i]? = some v := by
  have e := congrArg (fun l => l[0]?) h
  simpa [List.getElem?_drop] using e
theorem openWords (L : List Int) (hL : L.length = 4) (h : DataW.trod enc Tryz.prog W base sp held fuel 25 cs = some x) (hx : x.1 = .agg (L.map (fun z => .lit (.int .u64 z)))) :
    ∀ i, i < 4 → cs[i]? = (L[i]?).map (fun z => Value.int .u64 z) := by
  obtain ⟨xs, m, rfl, rfl, hlen, hxl, hel⟩ := DataW.trod_array Tryz.underlying25 h
  intro i hi
  have g := hel i hi
  rw [cU, Nat.mul_one] at g
  simp only [DataW.agg.injEq] at hx
  have k := congrArg (fun l => l[i]?) hx
  simp only [List.getElem?_map] at k
  obtain ⟨y, hy⟩ : ∃ y, xs[i]? = some y := ⟨_, List.getElem?_eq_getElem (by omega)⟩
  obtain ⟨z, hz⟩ : ∃ z, L[i]? = some z := ⟨_, List.getElem?_eq_getElem (by omega)⟩
  rw [hy] at g k
  rw [hz] at k ⊢
  simp only [Option.map_some, Option.some.injEq] at k
  obtain ⟨n, e, rfl, _⟩ := DataW.trod_int Tryz.underlying23 g
  simp only [DataW.lit.injEq, Lit.int.injEq, true_and] at k
  rw [Option.map_some, get1 i e, k]
theorem list5s {α : Type} (l : List α) (h : l.length = 5) : ∃ a b c d e, l = [a, b, c, d, e] := by
  match l, h with
  | [a, b, c, d, e], _ => exact ⟨a, b, c, d, e, rfl⟩
theorem list2s {α : Type} (l : List α) (h : l.length = 2) : ∃ a b, l = [a, b] := by
  match l, h with
  | [a, b], _ => exact ⟨a, b, rfl⟩
theorem openPrime {a0 a1 a2 a3 k : Int} (h : DataW.trod enc Tryz.prog W base sp held fuel 190 cs = some x) (hx : x.1 = .agg [.agg [.lit (.int .u64 a0), .lit (.int .u64 a1), .lit (.int .u64 a2), .lit (.int .u64 a3)], .lit (.int .i64 k)]) :
    cs = [.int .u64 a0, .int .u64 a1, .int .u64 a2, .int .u64 a3, .int .i64 k] := by
  obtain ⟨n0, n1, hl, t0, t1, o0, o1⟩ := fieldsP
  obtain ⟨xs, m, rfl, rfl, hlen, _, hf⟩ := DataW.trod_struct uTP h
  rw [cTP] at hlen
  obtain ⟨c0, c1, c2, c3, c4, rfl⟩ := list5s cs hlen
  have hget : ∀ i (f : Field), (Tryz.prog.fieldsOf 190).toList[i]? = some f → DataW.trod enc Tryz.prog W base sp held m f.type (([c0, c1, c2, c3, c4].drop f.offset).take (Tryz.prog.cellsOf f.type)) = xs[i]? := fun i f hi => hf i f (by simpa using hi)
  rw [hl] at hget
  have g0 := hget 0 n0 rfl; have g1 := hget 1 n1 rfl
  rw [t0, o0, cT] at g0
  rw [t1, o1, cI] at g1
  simp only [DataW.agg.injEq] at hx
  have hxl : xs.length = 2 := by have := congrArg List.length hx; simpa using this
  obtain ⟨y0, y1, rfl⟩ := list2s xs hxl
  simp only [List.map_cons, List.map_nil, List.cons.injEq, and_true] at hx
  have e0 := openNum g0 hx.1; have e1 := oneInt g1 hx.2
  simp at e0 e1
  rw [e0.1, e0.2.1, e0.2.2.1, e0.2.2.2, e1]
end
theorem getDT (l : List Value) (a j : Nat) (hj : j < 5) {r : List Value} (h : (l.drop a).take 5 = r) : l[a + j]? = r[j]? := by
  rw [← h]; simp [List.getElem?_drop, hj]
def laidF : List (String × DataW Unit) := [("sigil/field.primes", Rows.laid_sigil_field_primes), ("sigil/field.one", Rows.laid_sigil_field_one), ("sigil/domain.one", Rows.laid_sigil_domain_one)]
theorem limb_lits : limb 0 (modN 0) = 16513537 ∧ limb 1 (modN 0) = 0 ∧ limb 2 (modN 0) = 0 ∧ limb 3 (modN 0) = 0 ∧ limb 0 (modN 1) = 16521217 ∧ limb 1 (modN 1) = 0 ∧ limb 2 (modN 1) = 0 ∧ limb 3 (modN 1) = 0 ∧ limb 0 (modN 2) = 11037532056220336129 ∧ limb 1 (modN 2) = 2469829653914515739 ∧ limb 2 (modN 2) = 0 ∧ limb 3 (modN 2) = 4611686018427387904 ∧ limb 0 (modN 3) = 10108024940646105089 ∧ limb 1 (modN 3) = 2469829653919213789 ∧ limb 2 (modN 3) = 0 ∧ limb 3 (modN 3) = 4611686018427387904 := by decide
set_option maxRecDepth 100000 in
/-- What the condition on the variables gives. -/
theorem globD_of_laid {W : World} (h : laidMetH Tryz.prog laidF W) : GlobD W := by
  rw [MakeChecks.laidMetH_plain _ _ _ (by kernel_rfl)] at h
  obtain ⟨ps, ⟨g0, t0, cs0, f0, p0, q0, hg0, ht0, hv0, hd0, ⟨g1, t1, cs1, f1, p1, q1, hg1, ht1, hv1, hd1, ⟨g2, t2, cs2, f2, p2, q2, hg2, ht2, hv2, hd2, _, _⟩, _⟩, _⟩, _, _⟩ := h
  obtain rfl := Option.some.inj (gPrimes.symm.trans hg0)
  obtain rfl := Option.some.inj (gOne.symm.trans hg1)
  obtain rfl := Option.some.inj (tPrimes.symm.trans ht0)
  obtain rfl := Option.some.inj (tOne.symm.trans ht1)
  obtain rfl := Option.some.inj (gCons.symm.trans hg2)
  obtain rfl := Option.some.inj (tCons.symm.trans ht2)
  have k1 := openNum hd1 rfl
  have k2 := openWords [1, 0, 0, 0] (by decide) hd2 (by rfl)
  have cell2 : ∀ k, W.cell? ⟨0, k, none⟩ = cs2.toList[k]? := fun k => by rw [World.var?_cell hg2 hv2 k]; simp
  obtain ⟨xs, m, rfl, hx, hlen, hxl, hel⟩ := DataW.trod_array Tryz.underlying191 hd0
  obtain ⟨x0, x1, x2, x3, rfl⟩ := list4s xs hxl
  have hx1 := congrArg Prod.fst hx
  simp only [Rows.laid_sigil_field_primes, DataW.agg.injEq, List.map_cons, List.map_nil, List.cons.injEq, and_true] at hx1
  obtain ⟨y0, y1, y2, y3⟩ := hx1
  have e0 := openPrime (hel 0 (by decide)) y0.symm
  have e1 := openPrime (hel 1 (by decide)) y1.symm
  have e2 := openPrime (hel 2 (by decide)) y2.symm
  have e3 := openPrime (hel 3 (by decide)) y3.symm
  rw [cTP] at e0 e1 e2 e3
  have cell0 : ∀ k, W.cell? ⟨1, k, none⟩ = cs0.toList[k]? := fun k => by rw [World.var?_cell hg0 hv0 k]; simp
  have cell1 : ∀ k, W.cell? ⟨2, k, none⟩ = cs1.toList[k]? := fun k => by rw [World.var?_cell hg1 hv1 k]; simp
  rw [k1] at cell1
  have d0 : ∀ j, j < 5 → W.cell? ⟨1, 5 * 0 + j, none⟩ = _ := fun j hj => (cell0 _).trans (getDT cs0.toList (0 * 5) j hj e0)
  have d1 : ∀ j, j < 5 → W.cell? ⟨1, 5 * 1 + j, none⟩ = _ := fun j hj => (cell0 _).trans (getDT cs0.toList (1 * 5) j hj e1)
  have d2 : ∀ j, j < 5 → W.cell? ⟨1, 5 * 2 + j, none⟩ = _ := fun j hj => (cell0 _).trans (getDT cs0.toList (2 * 5) j hj e2)
  have d3 : ∀ j, j < 5 → W.cell? ⟨1, 5 * 3 + j, none⟩ = _ := fun j hj => (cell0 _).trans (getDT cs0.toList (3 * 5) j hj e3)
  obtain ⟨l00, l01, l02, l03, l10, l11, l12, l13, l20, l21, l22, l23, l30, l31, l32, l33⟩ := limb_lits
  have hw : 2 < W.heap.size := World.block_lt_of_cell? W ⟨2, 0, none⟩ (cell1 0)
  refine ⟨⟨by omega, ?_, ?_⟩, fun i hi => ?_⟩
  · intro s hs
    have h4 : s = 0 ∨ s = 1 ∨ s = 2 ∨ s = 3 := by omega
    rcases h4 with rfl | rfl | rfl | rfl
    · refine ⟨fun j hj => ?_, d0 4 (by decide)⟩
      have hj4 : j = 0 ∨ j = 1 ∨ j = 2 ∨ j = 3 := by omega
      rcases hj4 with rfl | rfl | rfl | rfl
      · rw [l00]; exact d0 0 (by decide)
      · rw [l01]; exact d0 1 (by decide)
      · rw [l02]; exact d0 2 (by decide)
      · rw [l03]; exact d0 3 (by decide)
    · refine ⟨fun j hj => ?_, d1 4 (by decide)⟩
      have hj4 : j = 0 ∨ j = 1 ∨ j = 2 ∨ j = 3 := by omega
      rcases hj4 with rfl | rfl | rfl | rfl
      · rw [l10]; exact d1 0 (by decide)
      · rw [l11]; exact d1 1 (by decide)
      · rw [l12]; exact d1 2 (by decide)
      · rw [l13]; exact d1 3 (by decide)
    · refine ⟨fun j hj => ?_, d2 4 (by decide)⟩
      have hj4 : j = 0 ∨ j = 1 ∨ j = 2 ∨ j = 3 := by omega
      rcases hj4 with rfl | rfl | rfl | rfl
      · rw [l20]; exact d2 0 (by decide)
      · rw [l21]; exact d2 1 (by decide)
      · rw [l22]; exact d2 2 (by decide)
      · rw [l23]; exact d2 3 (by decide)
    · refine ⟨fun j hj => ?_, d3 4 (by decide)⟩
      have hj4 : j = 0 ∨ j = 1 ∨ j = 2 ∨ j = 3 := by omega
      rcases hj4 with rfl | rfl | rfl | rfl
      · rw [l30]; exact d3 0 (by decide)
      · rw [l31]; exact d3 1 (by decide)
      · rw [l32]; exact d3 2 (by decide)
      · rw [l33]; exact d3 3 (by decide)
  · intro i hi
    have hi4 : i = 0 ∨ i = 1 ∨ i = 2 ∨ i = 3 := by omega
    rcases hi4 with rfl | rfl | rfl | rfl
    · rw [limb_one.1]; exact cell1 0
    · rw [limb_one.2.1]; exact cell1 1
    · rw [limb_one.2.2.1]; exact cell1 2
    · rw [limb_one.2.2.2]; exact cell1 3
  · rw [cell2 i, k2 i hi]
    have hi4 : i = 0 ∨ i = 1 ∨ i = 2 ∨ i = 3 := by omega
    rcases hi4 with rfl | rfl | rfl | rfl
    · rw [limb_one.1]; rfl
    · rw [limb_one.2.1]; rfl
    · rw [limb_one.2.2.1]; rfl
    · rw [limb_one.2.2.2]; rfl
end Go.Proofs.YtfbfenljfdnggaaGreatDoor
