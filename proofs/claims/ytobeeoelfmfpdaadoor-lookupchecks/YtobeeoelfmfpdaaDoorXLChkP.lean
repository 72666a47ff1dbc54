/- LookupChecks: for every sort, spot, seek, beta and gamma the call returns true: Checks answers what the reference answers. Condition: the variable of package field named primes reads as the text lays it when the call begins (the card ties it). -/
import Derived.Test.YtobeeoelfmfpdaaDoorRows
import Derived.Test.YtobeeoelfmfpdaaDoorXLG1
import Derived.Test.YtobeeoelfmfpdaaDoorXLV5
import Derived.Test.YtobeeoelfmfpdaaDoorXBA
import Derived.Test.YtobeeoelfmfpdaaDoorTie
import Derived.Test.YtobeeoelfmfpdaaDoorCards
import Derived.SevenTiedAt
import Derived.SizedLaws
import Derived.ProofKit
import Derived.Laws.IdiomArrays
namespace Go.Proofs.YtobeeoelfmfpdaaDoor
open Go.ChangeShapes Go.WideShapes Go.ChangeAt Go.RowKit
open Go.WideMaps Go.WideElems
open Go.ChangeMaps (setBlock shut_map_nil open_string shut_string keptBut_setBlock frozen?_setBlock heap_setBlock_same)
theorem Tryd.own : ownKnob Tryd.prog.godebug = none := by kernel_rfl
theorem Tryd.cellsU : Tryd.prog.cellsOf 22 = 1 := by kernel_rfl
theorem Tryd.cellsE : Tryd.prog.cellsOf 24 = 4 := by kernel_rfl
theorem list4 {α : Type} (l : List α) (h : (⟨l⟩ : Array α).size = 4) : ∃ a b c d, l = [a, b, c, d] := by
  match l, h with
  | [a, b, c, d], _ => exact ⟨a, b, c, d, rfl⟩
set_option maxRecDepth 100000 in
/-- An array of four words that is read is the words of a number below 2^256. -/
theorem openE {H : Type} {enc : TypeId × Value → H} {W : World} {base : Nat} {v : Value} {d : DataW H} {p : List MemPlace} (hv : Value.okWide Tryd.prog W .any base 24 v) (h : DataW.Trod enc Tryd.prog W 0 (fun _ => true) true 24 v d p) :
    ∃ x : Nat, x < 115792089237316195423570985008687907853269984665640564039457584007913129639936 ∧ v = .agg #[.int .u64 ((limb 0 (x) : Nat) : Int), .int .u64 ((limb 1 (x) : Nat) : Int), .int .u64 ((limb 2 (x) : Nat) : Int), .int .u64 ((limb 3 (x) : Nat) : Int)] ∧ p = [] ∧ d = .agg [.lit (.int .u64 ((limb 0 x : Nat) : Int)), .lit (.int .u64 ((limb 1 x : Nat) : Int)), .lit (.int .u64 ((limb 2 x : Nat) : Int)), .lit (.int .u64 ((limb 3 x : Nat) : Int))] := by
  obtain ⟨cs, rfl, hsz, _⟩ : ∃ cs, v = .agg cs ∧ cs.size = Tryd.prog.cellsOf 24 ∧ Row.okWide Tryd.prog W .any base 24 cs := by
    simpa [Value.okWide, Tryd.underlying24] using hv
  rw [Tryd.cellsE] at hsz
  obtain ⟨l⟩ := cs
  obtain ⟨c0, c1, c2, c3, rfl⟩ := list4 l hsz
  obtain ⟨fuel, hf⟩ := h
  obtain ⟨y0, y1, y2, y3, m, hx, hy0, hy1, hy2, hy3⟩ := trod_array4 Tryd.underlying24 Tryd.cellsU hf
  obtain ⟨x0, e0, rfl, w0⟩ := DataW.trod_int Tryd.underlying22 hy0
  obtain ⟨x1, e1, rfl, w1⟩ := DataW.trod_int Tryd.underlying22 hy1
  obtain ⟨x2, e2, rfl, w2⟩ := DataW.trod_int Tryd.underlying22 hy2
  obtain ⟨x3, e3, rfl, w3⟩ := DataW.trod_int Tryd.underlying22 hy3
  simp at e0 e1 e2 e3
  subst e0 e1 e2 e3
  simp only [Prod.mk.injEq] at hx
  obtain ⟨rfl, rfl⟩ := hx
  have b0 := bounds_u64' w0; have b1 := bounds_u64' w1; have b2 := bounds_u64' w2; have b3 := bounds_u64' w3
  obtain ⟨n0, rfl⟩ := Int.eq_ofNat_of_zero_le b0.1
  obtain ⟨n1, rfl⟩ := Int.eq_ofNat_of_zero_le b1.1
  obtain ⟨n2, rfl⟩ := Int.eq_ofNat_of_zero_le b2.1
  obtain ⟨n3, rfl⟩ := Int.eq_ofNat_of_zero_le b3.1
  have g := limbs_of n0 n1 n2 n3 (by omega) (by omega) (by omega) (by omega) _ rfl
  refine ⟨_, g.2.2.2.2, ?_, rfl, ?_⟩
  · rw [← g.1, ← g.2.1, ← g.2.2.1, ← g.2.2.2.1]
  · rw [← g.1, ← g.2.1, ← g.2.2.1, ← g.2.2.2.1]
set_option maxRecDepth 100000 in
theorem readE {H : Type} {enc : TypeId × Value → H} (W : World) (x : Nat) (sp : Nat → Bool) : DataW.Trod enc Tryd.prog W 0 sp true 24 (.agg #[.int .u64 ((limb 0 (x) : Nat) : Int), .int .u64 ((limb 1 (x) : Nat) : Int), .int .u64 ((limb 2 (x) : Nat) : Int), .int .u64 ((limb 3 (x) : Nat) : Int)]) (DataW.agg [.lit (.int .u64 ((limb 0 x : Nat) : Int)), .lit (.int .u64 ((limb 1 x : Nat) : Int)), .lit (.int .u64 ((limb 2 x : Nat) : Int)), .lit (.int .u64 ((limb 3 x : Nat) : Int))]) [] := by
  have hw : ∀ i, (Lit.int .u64 ((limb i x : Nat) : Int)).wf = true := fun i => wf_limb (limb i x) (limb_lt i x)
  exact ⟨2, by simp [DataW.trod, Value.cells, Tryd.underlying24, Tryd.underlying22, Tryd.cellsE, Tryd.cellsU, hw, show List.range 4 = [0, 1, 2, 3] from rfl]⟩
theorem Tryd.laidOut : laidOutB Tryd.prog = true := by kernel_rfl
set_option maxRecDepth 100000 in
/-- Four cells that are read as an element are the words of a number below 2^256. -/
theorem openQ {H : Type} {enc : TypeId × Value → H} {W : World} {base m : Nat} {sp : Nat → Bool} {held : Bool} {c0 c1 c2 c3 : Value} {x : DataW H × List MemPlace} (h : DataW.trod enc Tryd.prog W base sp held m 24 [c0, c1, c2, c3] = some x) :
    ∃ x : Nat, x < 115792089237316195423570985008687907853269984665640564039457584007913129639936 ∧ c0 = .int .u64 ((limb 0 x : Nat) : Int) ∧ c1 = .int .u64 ((limb 1 x : Nat) : Int) ∧ c2 = .int .u64 ((limb 2 x : Nat) : Int) ∧ c3 = .int .u64 ((limb 3 x : Nat) : Int) := by
  obtain ⟨y0, y1, y2, y3, k, _, hy0, hy1, hy2, hy3⟩ := trod_array4 Tryd.underlying24 Tryd.cellsU h
  obtain ⟨x0, e0, _, w0⟩ := DataW.trod_int Tryd.underlying22 hy0
  obtain ⟨x1, e1, _, w1⟩ := DataW.trod_int Tryd.underlying22 hy1
  obtain ⟨x2, e2, _, w2⟩ := DataW.trod_int Tryd.underlying22 hy2
  obtain ⟨x3, e3, _, w3⟩ := DataW.trod_int Tryd.underlying22 hy3
  simp at e0 e1 e2 e3
  subst e0 e1 e2 e3
  have b0 := bounds_u64' w0; have b1 := bounds_u64' w1; have b2 := bounds_u64' w2; have b3 := bounds_u64' w3
  obtain ⟨n0, rfl⟩ := Int.eq_ofNat_of_zero_le b0.1
  obtain ⟨n1, rfl⟩ := Int.eq_ofNat_of_zero_le b1.1
  obtain ⟨n2, rfl⟩ := Int.eq_ofNat_of_zero_le b2.1
  obtain ⟨n3, rfl⟩ := Int.eq_ofNat_of_zero_le b3.1
  have g := limbs_of n0 n1 n2 n3 (by omega) (by omega) (by omega) (by omega) _ rfl
  refine ⟨_, g.2.2.2.2, ?_, ?_, ?_, ?_⟩
  · rw [← g.1]
  · rw [← g.2.1]
  · rw [← g.2.2.1]
  · rw [← g.2.2.2.1]
theorem Tryd.cellsSpot : Tryd.prog.cellsOf 50 = 16 := by kernel_rfl
theorem Tryd.undSpot : Tryd.prog.underlying 50 = some (.struct (Tryd.prog.fieldsOf 50)) := by kernel_rfl
theorem listSpot {α : Type} (l : List α) (h : (⟨l⟩ : Array α).size = 16) : ∃ c0 c1 c2 c3 c4 c5 c6 c7 c8 c9 c10 c11 c12 c13 c14 c15, l = [c0, c1, c2, c3, c4, c5, c6, c7, c8, c9, c10, c11, c12, c13, c14, c15] := by
  match l, h with
  | [c0, c1, c2, c3, c4, c5, c6, c7, c8, c9, c10, c11, c12, c13, c14, c15], _ => exact ⟨c0, c1, c2, c3, c4, c5, c6, c7, c8, c9, c10, c11, c12, c13, c14, c15, rfl⟩
theorem flSpot {α : Type} (l : List α) (h : l.length = 4) : ∃ a0 a1 a2 a3, l = [a0, a1, a2, a3] := by
  match l, h with
  | [a0, a1, a2, a3], _ => exact ⟨a0, a1, a2, a3, rfl⟩
theorem fieldsSpot : ∃ n0 n1 n2 n3 : Field, (Tryd.prog.fieldsOf 50).toList = [n0, n1, n2, n3] ∧ (n0.type = 24 ∧ n1.type = 24 ∧ n2.type = 24 ∧ n3.type = 24) ∧ n0.offset = 0 ∧ n1.offset = 4 ∧ n2.offset = 8 ∧ n3.offset = 12 := by
  have h : (Tryd.prog.fieldsOf 50).toList.map (fun f => (f.type, f.offset)) = [(24, 0), (24, 4), (24, 8), (24, 12)] := by kernel_rfl
  have hlen : (Tryd.prog.fieldsOf 50).toList.length = 4 := by
    have := congrArg List.length h
    simpa using this
  obtain ⟨n0, n1, n2, n3, hl⟩ := flSpot _ hlen
  rw [hl] at h ⊢
  simp only [List.map_cons, List.map_nil, List.cons.injEq, Prod.mk.injEq, and_true] at h
  obtain ⟨⟨u0, w0⟩, ⟨u1, w1⟩, ⟨u2, w2⟩, ⟨u3, w3⟩⟩ := h
  exact ⟨n0, n1, n2, n3, rfl, ⟨u0, u1, u2, u3⟩, w0, w1, w2, w3⟩
set_option maxRecDepth 100000 in
/-- A struct of 4 elements that is read. -/
theorem openX {H : Type} {enc : TypeId × Value → H} {W : World} {base : Nat} {v : Value} {d : DataW H} {p : List MemPlace} (hv : Value.okWide Tryd.prog W .any base 50 v) (h : DataW.Trod enc Tryd.prog W 0 (fun _ => true) true 50 v d p) :
    ∃ (cs : Array Value) (x0 x1 x2 x3 : Nat), v = .agg cs ∧ SpV cs x0 x1 x2 x3 ∧ x0 < 115792089237316195423570985008687907853269984665640564039457584007913129639936 ∧ x1 < 115792089237316195423570985008687907853269984665640564039457584007913129639936 ∧ x2 < 115792089237316195423570985008687907853269984665640564039457584007913129639936 ∧ x3 < 115792089237316195423570985008687907853269984665640564039457584007913129639936 := by
  obtain ⟨cs, rfl, hsz, _⟩ : ∃ cs, v = .agg cs ∧ cs.size = Tryd.prog.cellsOf 50 ∧ Row.okWide Tryd.prog W .any base 50 cs := by
    simpa [Value.okWide, Tryd.undSpot] using hv
  rw [Tryd.cellsSpot] at hsz
  obtain ⟨l⟩ := cs
  obtain ⟨c0, c1, c2, c3, c4, c5, c6, c7, c8, c9, c10, c11, c12, c13, c14, c15, rfl⟩ := listSpot l hsz
  obtain ⟨fuel, hf0⟩ := h
  obtain ⟨n0, n1, n2, n3, hl, ⟨t0, t1, t2, t3⟩, o0, o1, o2, o3⟩ := fieldsSpot
  obtain ⟨xs, m, _, _, _, hxl, hf⟩ := DataW.trod_struct Tryd.undSpot hf0
  have hget : ∀ i (f : Field), (Tryd.prog.fieldsOf 50).toList[i]? = some f → DataW.trod enc Tryd.prog W 0 (fun _ => true) true m f.type (([c0, c1, c2, c3, c4, c5, c6, c7, c8, c9, c10, c11, c12, c13, c14, c15].drop f.offset).take (Tryd.prog.cellsOf f.type)) = xs[i]? := fun i f hi => hf i f (by simpa using hi)
  have hxn : xs.length = 4 := by rw [hxl]; simpa using congrArg List.length hl
  rw [hl] at hget
  have g0 := hget 0 n0 rfl
  rw [t0, o0, Tryd.cellsE, List.getElem?_eq_getElem (by omega)] at g0
  obtain ⟨x0, hx0, rfl, rfl, rfl, rfl⟩ := openQ g0
  have g1 := hget 1 n1 rfl
  rw [t1, o1, Tryd.cellsE, List.getElem?_eq_getElem (by omega)] at g1
  obtain ⟨x1, hx1, rfl, rfl, rfl, rfl⟩ := openQ g1
  have g2 := hget 2 n2 rfl
  rw [t2, o2, Tryd.cellsE, List.getElem?_eq_getElem (by omega)] at g2
  obtain ⟨x2, hx2, rfl, rfl, rfl, rfl⟩ := openQ g2
  have g3 := hget 3 n3 rfl
  rw [t3, o3, Tryd.cellsE, List.getElem?_eq_getElem (by omega)] at g3
  obtain ⟨x3, hx3, rfl, rfl, rfl, rfl⟩ := openQ g3
  exact ⟨_, x0, x1, x2, x3, rfl, ⟨rfl, ⟨rfl, rfl, rfl, rfl⟩, ⟨rfl, rfl, rfl, rfl⟩, ⟨rfl, rfl, rfl, rfl⟩, ⟨rfl, rfl, rfl, rfl⟩⟩, hx0, hx1, hx2, hx3⟩
theorem Tryd.cellsSeek : Tryd.prog.cellsOf 52 = 28 := by kernel_rfl
theorem Tryd.undSeek : Tryd.prog.underlying 52 = some (.struct (Tryd.prog.fieldsOf 52)) := by kernel_rfl
theorem listSeek {α : Type} (l : List α) (h : (⟨l⟩ : Array α).size = 28) : ∃ c0 c1 c2 c3 c4 c5 c6 c7 c8 c9 c10 c11 c12 c13 c14 c15 c16 c17 c18 c19 c20 c21 c22 c23 c24 c25 c26 c27, l = [c0, c1, c2, c3, c4, c5, c6, c7, c8, c9, c10, c11, c12, c13, c14, c15, c16, c17, c18, c19, c20, c21, c22, c23, c24, c25, c26, c27] := by
  match l, h with
  | [c0, c1, c2, c3, c4, c5, c6, c7, c8, c9, c10, c11, c12, c13, c14, c15, c16, c17, c18, c19, c20, c21, c22, c23, c24, c25, c26, c27], _ => exact ⟨c0, c1, c2, c3, c4, c5, c6, c7, c8, c9, c10, c11, c12, c13, c14, c15, c16, c17, c18, c19, c20, c21, c22, c23, c24, c25, c26, c27, rfl⟩
theorem flSeek {α : Type} (l : List α) (h : l.length = 7) : ∃ a0 a1 a2 a3 a4 a5 a6, l = [a0, a1, a2, a3, a4, a5, a6] := by
  match l, h with
  | [a0, a1, a2, a3, a4, a5, a6], _ => exact ⟨a0, a1, a2, a3, a4, a5, a6, rfl⟩
theorem fieldsSeek : ∃ n0 n1 n2 n3 n4 n5 n6 : Field, (Tryd.prog.fieldsOf 52).toList = [n0, n1, n2, n3, n4, n5, n6] ∧ (n0.type = 24 ∧ n1.type = 24 ∧ n2.type = 24 ∧ n3.type = 24 ∧ n4.type = 24 ∧ n5.type = 24 ∧ n6.type = 24) ∧ n0.offset = 0 ∧ n1.offset = 4 ∧ n2.offset = 8 ∧ n3.offset = 12 ∧ n4.offset = 16 ∧ n5.offset = 20 ∧ n6.offset = 24 := by
  have h : (Tryd.prog.fieldsOf 52).toList.map (fun f => (f.type, f.offset)) = [(24, 0), (24, 4), (24, 8), (24, 12), (24, 16), (24, 20), (24, 24)] := by kernel_rfl
  have hlen : (Tryd.prog.fieldsOf 52).toList.length = 7 := by
    have := congrArg List.length h
    simpa using this
  obtain ⟨n0, n1, n2, n3, n4, n5, n6, hl⟩ := flSeek _ hlen
  rw [hl] at h ⊢
  simp only [List.map_cons, List.map_nil, List.cons.injEq, Prod.mk.injEq, and_true] at h
  obtain ⟨⟨u0, w0⟩, ⟨u1, w1⟩, ⟨u2, w2⟩, ⟨u3, w3⟩, ⟨u4, w4⟩, ⟨u5, w5⟩, ⟨u6, w6⟩⟩ := h
  exact ⟨n0, n1, n2, n3, n4, n5, n6, rfl, ⟨u0, u1, u2, u3, u4, u5, u6⟩, w0, w1, w2, w3, w4, w5, w6⟩
set_option maxRecDepth 100000 in
/-- A struct of 7 elements that is read. -/
theorem openY {H : Type} {enc : TypeId × Value → H} {W : World} {base : Nat} {v : Value} {d : DataW H} {p : List MemPlace} (hv : Value.okWide Tryd.prog W .any base 52 v) (h : DataW.Trod enc Tryd.prog W 0 (fun _ => true) true 52 v d p) :
    ∃ (cs : Array Value) (x0 x1 x2 x3 x4 x5 x6 : Nat), v = .agg cs ∧ SkV cs x0 x1 x2 x3 x4 x5 x6 ∧ x0 < 115792089237316195423570985008687907853269984665640564039457584007913129639936 ∧ x1 < 115792089237316195423570985008687907853269984665640564039457584007913129639936 ∧ x2 < 115792089237316195423570985008687907853269984665640564039457584007913129639936 ∧ x3 < 115792089237316195423570985008687907853269984665640564039457584007913129639936 ∧ x4 < 115792089237316195423570985008687907853269984665640564039457584007913129639936 ∧ x5 < 115792089237316195423570985008687907853269984665640564039457584007913129639936 ∧ x6 < 115792089237316195423570985008687907853269984665640564039457584007913129639936 := by
  obtain ⟨cs, rfl, hsz, _⟩ : ∃ cs, v = .agg cs ∧ cs.size = Tryd.prog.cellsOf 52 ∧ Row.okWide Tryd.prog W .any base 52 cs := by
    simpa [Value.okWide, Tryd.undSeek] using hv
  rw [Tryd.cellsSeek] at hsz
  obtain ⟨l⟩ := cs
  obtain ⟨c0, c1, c2, c3, c4, c5, c6, c7, c8, c9, c10, c11, c12, c13, c14, c15, c16, c17, c18, c19, c20, c21, c22, c23, c24, c25, c26, c27, rfl⟩ := listSeek l hsz
  obtain ⟨fuel, hf0⟩ := h
  obtain ⟨n0, n1, n2, n3, n4, n5, n6, hl, ⟨t0, t1, t2, t3, t4, t5, t6⟩, o0, o1, o2, o3, o4, o5, o6⟩ := fieldsSeek
  obtain ⟨xs, m, _, _, _, hxl, hf⟩ := DataW.trod_struct Tryd.undSeek hf0
  have hget : ∀ i (f : Field), (Tryd.prog.fieldsOf 52).toList[i]? = some f → DataW.trod enc Tryd.prog W 0 (fun _ => true) true m f.type (([c0, c1, c2, c3, c4, c5, c6, c7, c8, c9, c10, c11, c12, c13, c14, c15, c16, c17, c18, c19, c20, c21, c22, c23, c24, c25, c26, c27].drop f.offset).take (Tryd.prog.cellsOf f.type)) = xs[i]? := fun i f hi => hf i f (by simpa using hi)
  have hxn : xs.length = 7 := by rw [hxl]; simpa using congrArg List.length hl
  rw [hl] at hget
  have g0 := hget 0 n0 rfl
  rw [t0, o0, Tryd.cellsE, List.getElem?_eq_getElem (by omega)] at g0
  obtain ⟨x0, hx0, rfl, rfl, rfl, rfl⟩ := openQ g0
  have g1 := hget 1 n1 rfl
  rw [t1, o1, Tryd.cellsE, List.getElem?_eq_getElem (by omega)] at g1
  obtain ⟨x1, hx1, rfl, rfl, rfl, rfl⟩ := openQ g1
  have g2 := hget 2 n2 rfl
  rw [t2, o2, Tryd.cellsE, List.getElem?_eq_getElem (by omega)] at g2
  obtain ⟨x2, hx2, rfl, rfl, rfl, rfl⟩ := openQ g2
  have g3 := hget 3 n3 rfl
  rw [t3, o3, Tryd.cellsE, List.getElem?_eq_getElem (by omega)] at g3
  obtain ⟨x3, hx3, rfl, rfl, rfl, rfl⟩ := openQ g3
  have g4 := hget 4 n4 rfl
  rw [t4, o4, Tryd.cellsE, List.getElem?_eq_getElem (by omega)] at g4
  obtain ⟨x4, hx4, rfl, rfl, rfl, rfl⟩ := openQ g4
  have g5 := hget 5 n5 rfl
  rw [t5, o5, Tryd.cellsE, List.getElem?_eq_getElem (by omega)] at g5
  obtain ⟨x5, hx5, rfl, rfl, rfl, rfl⟩ := openQ g5
  have g6 := hget 6 n6 rfl
  rw [t6, o6, Tryd.cellsE, List.getElem?_eq_getElem (by omega)] at g6
  obtain ⟨x6, hx6, rfl, rfl, rfl, rfl⟩ := openQ g6
  exact ⟨_, x0, x1, x2, x3, x4, x5, x6, rfl, ⟨rfl, ⟨rfl, rfl, rfl, rfl⟩, ⟨rfl, rfl, rfl, rfl⟩, ⟨rfl, rfl, rfl, rfl⟩, ⟨rfl, rfl, rfl, rfl⟩, ⟨rfl, rfl, rfl, rfl⟩, ⟨rfl, rfl, rfl, rfl⟩, ⟨rfl, rfl, rfl, rfl⟩⟩, hx0, hx1, hx2, hx3, hx4, hx5, hx6⟩
section
variable {H : Type} {enc : TypeId × Value → H} {P : Program} {w : World} {base : Nat} {spare : Nat → Bool} {held : Bool}
theorem trodAll_n5 {t0 t1 t2 t3 t4 : TypeId} {args : Array Value} {ds : List (DataW H)} {ps : List MemPlace} (h : DataW.TrodAll enc P w base spare held [t0, t1, t2, t3, t4] args.toList ds ps) :
    ∃ v0 v1 v2 v3 v4 d0 d1 d2 d3 d4 p0 p1 p2 p3 p4, args = #[v0, v1, v2, v3, v4] ∧ ds = [d0, d1, d2, d3, d4] ∧ ps = (p0 ++ (p1 ++ (p2 ++ (p3 ++ p4)))) ∧ DataW.Trod enc P w base spare held t0 v0 d0 p0 ∧ DataW.Trod enc P w base spare held t1 v1 d1 p1 ∧ DataW.Trod enc P w base spare held t2 v2 d2 p2 ∧ DataW.Trod enc P w base spare held t3 v3 d3 p3 ∧ DataW.Trod enc P w base spare held t4 v4 d4 p4 := by
  obtain ⟨v0, vs0, d0, ds0, p0, q0, hargs, rfl, rfl, hd0, hr0⟩ := trodAll_cons h
  obtain ⟨v1, vs1, d1, ds1, p1, q1, rfl, rfl, rfl, hd1, hr1⟩ := trodAll_cons hr0
  obtain ⟨v2, vs2, d2, ds2, p2, q2, rfl, rfl, rfl, hd2, hr2⟩ := trodAll_cons hr1
  obtain ⟨v3, vs3, d3, ds3, p3, q3, rfl, rfl, rfl, hd3, hr3⟩ := trodAll_cons hr2
  obtain ⟨v4, vs4, d4, ds4, p4, q4, rfl, rfl, rfl, hd4, hr4⟩ := trodAll_cons hr3
  obtain ⟨rfl, rfl, rfl⟩ := trodAll_nil hr4
  exact ⟨v0, v1, v2, v3, v4, d0, d1, d2, d3, d4, p0, p1, p2, p3, p4, by cases args; simp_all, rfl, by simp, hd0, hd1, hd2, hd3, hd4⟩
theorem trodAll_m5 {t0 t1 t2 t3 t4 : TypeId} {v0 v1 v2 v3 v4 : Value} {d0 d1 d2 d3 d4 : DataW H} {p0 p1 p2 p3 p4 : List MemPlace} (h0 : DataW.Trod enc P w base spare held t0 v0 d0 p0) (h1 : DataW.Trod enc P w base spare held t1 v1 d1 p1) (h2 : DataW.Trod enc P w base spare held t2 v2 d2 p2) (h3 : DataW.Trod enc P w base spare held t3 v3 d3 p3) (h4 : DataW.Trod enc P w base spare held t4 v4 d4 p4) : DataW.TrodAll enc P w base spare held [t0, t1, t2, t3, t4] [v0, v1, v2, v3, v4] [d0, d1, d2, d3, d4] (p0 ++ (p1 ++ (p2 ++ (p3 ++ p4)))) := ⟨p0, (p1 ++ (p2 ++ (p3 ++ p4))), h0, trodAll_mk4 h1 h2 h3 h4, rfl⟩
end
/-- The door's own heap meets the condition: closed facts. -/
theorem door_met (os : Os) (args : Array Value) : laidMetH Tryd.prog laidF ((World.doorLaid Tryd.prog 400 os).forCall (fun _ _ => 0) ⟨#[], args, []⟩).memory :=
  laidMetH_of_parts3 (fuel := 8) (laidMet_of_run' 8 (by kernel_rfl) (by kernel_rfl)) (by kernel_rfl) (by kernel_rfl)
set_option maxHeartbeats 1000000 in
set_option maxRecDepth 100000 in
theorem lifted (os : Os) (started : os.Started) (H : Type) (enc : TypeId × Value → H) :
    ReturnsInHanded {} Tryd.checked os 5 .any (fun w args => (Rows.lookupChecksSpec.pre enc Tryd.prog Tryd.f5 [] false w args ∧ laidMetH Tryd.prog laidF w) ∧ sizedMet enc Tryd.prog Tryd.f5 (OpenSpec.ofChange Rows.lookupChecksSpec) false w args)
      (Rows.lookupChecksSpec.post enc Tryd.prog Tryd.f5 false true false false) := by
  refine returnsInHanded_of_change_and (C := Tryd.checked) (X := fun w _ => laidMetH Tryd.prog laidF w) (fun _ _ _ hh h => h.of_heap hh) Tryd.own started (by kernel_rfl) Tryd.func5
    (ChangeSpec.witness_shaped (enc := enc) (C := Tryd.checked) (os := os) (X := fun w _ => laidMetH Tryd.prog laidF w) false (World.doorLaid Tryd.prog 400 os) #[.int .i64 0, .agg #[.int .u64 0, .int .u64 0, .int .u64 0, .int .u64 0, .int .u64 0, .int .u64 0, .int .u64 0, .int .u64 0, .int .u64 0, .int .u64 0, .int .u64 0, .int .u64 0, .int .u64 0, .int .u64 0, .int .u64 0, .int .u64 0], .agg #[.int .u64 0, .int .u64 0, .int .u64 0, .int .u64 0, .int .u64 0, .int .u64 0, .int .u64 0, .int .u64 0, .int .u64 0, .int .u64 0, .int .u64 0, .int .u64 0, .int .u64 0, .int .u64 0, .int .u64 0, .int .u64 0, .int .u64 0, .int .u64 0, .int .u64 0, .int .u64 0, .int .u64 0, .int .u64 0, .int .u64 0, .int .u64 0, .int .u64 0, .int .u64 0, .int .u64 0, .int .u64 0], .agg #[.int .u64 0, .int .u64 0, .int .u64 0, .int .u64 0], .agg #[.int .u64 0, .int .u64 0, .int .u64 0, .int .u64 0]] 8 rfl (World.shaped_of_RefB (by kernel_rfl) (by kernel_rfl)) (by kernel_rfl) (by kernel_rfl) (by kernel_rfl) (door_met os _)) ?_
  intro W base args ds gs before hval0 hW _ _ hL _
  have hval : ∀ (j : Nat) t v, Tryd.f5.params[j]? = some t → args[j]? = some v → Value.okWide Tryd.prog W .any base t v := hval0
  have hW' := hW
  obtain ⟨p, q, hA0, hV, rfl, _, _⟩ := hW
  have hA : DataW.TrodAll enc Tryd.prog W 0 (fun _ => true) true Tryd.f5.params.toList args.toList ds p := hA0
  rw [Tryd.params5] at hA hval
  obtain ⟨v0, v1, v2, v3, v4, d0, d1, d2, d3, d4, p0, p1, p2, p3, p4, rfl, rfl, rfl, h0, h1, h2, h3, h4⟩ := trodAll_n5 hA
  obtain ⟨rfl, rfl⟩ := trodVars_none hV
  obtain ⟨x0, rfl, rfl, rfl, hx0⟩ := open_int Tryd.underlying3 (hval 0 3 v0 rfl rfl) h0
  have h1k := h1
  obtain ⟨s1, a1_0, a1_1, a1_2, a1_3, rfl, hV1, ha1_0, ha1_1, ha1_2, ha1_3⟩ := openX (hval 1 50 v1 rfl rfl) h1
  have h2k := h2
  obtain ⟨s2, a2_0, a2_1, a2_2, a2_3, a2_4, a2_5, a2_6, rfl, hV2, ha2_0, ha2_1, ha2_2, ha2_3, ha2_4, ha2_5, ha2_6⟩ := openY (hval 2 52 v2 rfl rfl) h2
  obtain ⟨x3, hx3, rfl, rfl, rfl⟩ := openE (hval 3 24 v3 rfl rfl) h3
  obtain ⟨x4, hx4, rfl, rfl, rfl⟩ := openE (hval 4 24 v4 rfl rfl) h4
  clear hA0 hval0
  simp only [List.append_nil, List.nil_append] at hW'
  refine (chks_all x0 s1 s2 x3 x4 a2_0 a2_1 a2_2 a2_3 a2_4 a2_5 a2_6 a1_0 a1_1 a1_2 a1_3 hV1 hV2 hx3 hx4 ha2_0 ha2_1 ha2_2 ha2_3 ha2_4 ha2_5 ha2_6 ha1_1 ha1_2 ha1_3 W (glob_of_laid hL)).mono fun e W' ⟨he, hb⟩ => ?_
  subst he
  have r1 : (Rows.lookupChecksSpec.fn H ([.lit (.int .i64 x0), d1, d2, DataW.agg [.lit (.int .u64 ((limb 0 x3 : Nat) : Int)), .lit (.int .u64 ((limb 1 x3 : Nat) : Int)), .lit (.int .u64 ((limb 2 x3 : Nat) : Int)), .lit (.int .u64 ((limb 3 x3 : Nat) : Int))], DataW.agg [.lit (.int .u64 ((limb 0 x4 : Nat) : Int)), .lit (.int .u64 ((limb 1 x4 : Nat) : Int)), .lit (.int .u64 ((limb 2 x4 : Nat) : Int)), .lit (.int .u64 ((limb 3 x4 : Nat) : Int))]] ++ [])).results = [.lit (.bool true)] := by simp [Rows.lookupChecksSpec]
  have a1 : (Rows.lookupChecksSpec.fn H ([.lit (.int .i64 x0), d1, d2, DataW.agg [.lit (.int .u64 ((limb 0 x3 : Nat) : Int)), .lit (.int .u64 ((limb 1 x3 : Nat) : Int)), .lit (.int .u64 ((limb 2 x3 : Nat) : Int)), .lit (.int .u64 ((limb 3 x3 : Nat) : Int))], DataW.agg [.lit (.int .u64 ((limb 0 x4 : Nat) : Int)), .lit (.int .u64 ((limb 1 x4 : Nat) : Int)), .lit (.int .u64 ((limb 2 x4 : Nat) : Int)), .lit (.int .u64 ((limb 3 x4 : Nat) : Int))]] ++ [])).args = [.lit (.int .i64 x0), d1, d2, DataW.agg [.lit (.int .u64 ((limb 0 x3 : Nat) : Int)), .lit (.int .u64 ((limb 1 x3 : Nat) : Int)), .lit (.int .u64 ((limb 2 x3 : Nat) : Int)), .lit (.int .u64 ((limb 3 x3 : Nat) : Int))], DataW.agg [.lit (.int .u64 ((limb 0 x4 : Nat) : Int)), .lit (.int .u64 ((limb 1 x4 : Nat) : Int)), .lit (.int .u64 ((limb 2 x4 : Nat) : Int)), .lit (.int .u64 ((limb 3 x4 : Nat) : Int))]] := by simp [Rows.lookupChecksSpec]
  have v1 : (Rows.lookupChecksSpec.fn H ([.lit (.int .i64 x0), d1, d2, DataW.agg [.lit (.int .u64 ((limb 0 x3 : Nat) : Int)), .lit (.int .u64 ((limb 1 x3 : Nat) : Int)), .lit (.int .u64 ((limb 2 x3 : Nat) : Int)), .lit (.int .u64 ((limb 3 x3 : Nat) : Int))], DataW.agg [.lit (.int .u64 ((limb 0 x4 : Nat) : Int)), .lit (.int .u64 ((limb 1 x4 : Nat) : Int)), .lit (.int .u64 ((limb 2 x4 : Nat) : Int)), .lit (.int .u64 ((limb 3 x4 : Nat) : Int))]] ++ [])).vars = [] := by simp [Rows.lookupChecksSpec]
  refine ⟨_, rfl, _, _, _, [], ([] ++ (p1 ++ (p2 ++ ([] ++ [])))), [], hW', ?_, ?_, ?_, hb.frame _, fun h => by cases h⟩
  · rw [r1]; exact trodAll_mk1 (shut_bool Tryd.underlying4 true)
  · rw [a1]; exact trodAll_m5 (shut_int Tryd.underlying3 hx0) (Below.trod Tryd.laidOut (by kernel_rfl) (of_decide_eq_true (by kernel_rfl)) h1k hb (fun x hx => by simpa using hW'.lt x (by simp [hx]))) (Below.trod Tryd.laidOut (by kernel_rfl) (of_decide_eq_true (by kernel_rfl)) h2k hb (fun x hx => by simpa using hW'.lt x (by simp [hx]))) (readE W' x3 _) (readE W' x4 _)
  · rw [v1]; rfl
theorem lookupChecks_holds : Rows.LookupChecksSaid :=
  OpenClaim.holds_of_wide 5 Tryd.f5 rfl rfl rfl rfl rfl rfl rfl ⟨rfl, rfl, rfl, rfl, rfl⟩ rfl rfl rfl rfl rfl (by kernel_rfl) Tryd.func5 (by kernel_rfl)
    (of_decide_eq_true (by kernel_rfl)) (by unfold Func.isWrapper; first | (rw [if_pos (by decide +kernel)]; kernel_rfl) | (rw [if_neg (by decide +kernel)]; exact ⟨rfl, rfl⟩))
    (fun os started H enc _ => lifted os started H enc)
/-- The card: the row, its listed variables tied to the program's text. -/
theorem lookupChecks_card : Rows.LookupChecksCardSaid :=
  Claim7.holds_tied_plain_at .later [] [.data] true (true, "0d6a5f5b982bc067b6e25aa548b1fc376203abfe4a7c9dc4a68810846ebc2020") false
    lookupChecks_holds (fun _ h => by cases h) (by kernel_rfl) (fun _ h => by cases h) lookupChecks_row_tie rfl ⟨rfl, rfl⟩ (by kernel_rfl) rfl
    (fun f fn hf hfn => by
      obtain rfl : f = 5 := Option.some.inj ((show Tryd.prog.funcNamed "sigil/sigillaw17.LookupChecks" = some 5 by kernel_rfl).symm.trans hf) |>.symm
      obtain rfl : fn = Tryd.f5 := (Option.some.inj (Tryd.func5.symm.trans hfn)).symm
      exact ⟨by kernel_rfl, fun j t ht => by
        rw [Tryd.params5] at ht
        have hm : t ∈ [3, 50, 52, 24, 24] := by simpa using Array.mem_of_getElem? ht
        have hall : ([3, 50, 52, 24, 24].all fun u => !Tryd.prog.wantsStandIn u) = true := by kernel_rfl
        exact (show Tryd.prog.wantsStandIn t = false by simpa using List.all_eq_true.1 hall t hm)⟩)
    (by kernel_rfl)
#print axioms lookupChecks_card
end Go.Proofs.YtobeeoelfmfpdaaDoor
