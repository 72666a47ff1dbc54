/- ParamsCommits: for any parameters, coefficients and blind the call returns true: Commit answers as the reference does (of the little curves), and what is handed in is left as it was. Condition: the variables of packages blake, field and curve read as the text lays them when the call begins (the card ties them). -/
import Derived.Test.YtdeijnlbencfdaaGreatDoorRows
import Derived.Test.YtdeijnlbencfdaaGreatDoorWK19Q
import Derived.Test.YtdeijnlbencfdaaGreatDoorWPC3
import Derived.Test.YtdeijnlbencfdaaGreatDoorWXA
import Derived.Test.YtdeijnlbencfdaaGreatDoorTie
import Derived.Test.YtdeijnlbencfdaaGreatDoorCards
import Derived.SevenTiedAt
import Derived.SizedLaws
import Derived.ProofKit
import Derived.Laws.IdiomArrays
namespace Go.Proofs.YtdeijnlbencfdaaGreatDoor
open Go.ChangeShapes Go.WideShapes Go.ChangeAt Go.RowKit
open Go.WideMaps Go.WideElems
open Go.ChangeMaps (setBlock shut_map_nil open_string shut_string keptBut_setBlock frozen?_setBlock heap_setBlock_same)
theorem Tryz.own : ownKnob Tryz.prog.godebug = none := by kernel_rfl
theorem Tryz.cellsU : Tryz.prog.cellsOf 23 = 1 := by kernel_rfl
theorem Tryz.cellsE : Tryz.prog.cellsOf 25 = 4 := by kernel_rfl
theorem list4 {α : Type} (l : List α) (h : (⟨l⟩ : Array α).size = 4) : ∃ a b c d, l = [a, b, c, d] := by
 match l, h with
 | [a, b, c, d], _ => exact ⟨a, b, c, d, rfl⟩
set_option maxRecDepth 100000 in
theorem openE {H : Type} {enc : TypeId × Value → H} {W : World} {base : Nat} {v : Value} {d : DataW H} {p : List MemPlace} (hv : Value.okWide Tryz.prog W .any base 25 v) (h : DataW.Trod enc Tryz.prog W 0 (fun _ => true) true 25 v d p) :
  ∃ x : Nat, x < 115792089237316195423570985008687907853269984665640564039457584007913129639936 ∧ v = .agg #[.int .u64 (limb 0 x), .int .u64 (limb 1 x), .int .u64 (limb 2 x), .int .u64 (limb 3 x)] ∧ p = [] ∧ d = .agg [.lit (.int .u64 (limb 0 x)), .lit (.int .u64 (limb 1 x)), .lit (.int .u64 (limb 2 x)), .lit (.int .u64 (limb 3 x))] := by
 obtain ⟨cs, rfl, hsz, _⟩ : ∃ cs, v = .agg cs ∧ cs.size = Tryz.prog.cellsOf 25 ∧ Row.okWide Tryz.prog W .any base 25 cs := by
  simpa [Value.okWide, Tryz.underlying25] using hv
 rw [Tryz.cellsE] at hsz
 obtain ⟨l⟩ := cs
 obtain ⟨c0, c1, c2, c3, rfl⟩ := list4 l hsz
 obtain ⟨fuel, hf⟩ := h
 obtain ⟨y0, y1, y2, y3, m, hx, hy0, hy1, hy2, hy3⟩ := trod_array4 Tryz.underlying25 Tryz.cellsU hf
 obtain ⟨x0, e0, rfl, w0⟩ := DataW.trod_int Tryz.underlying23 hy0
 obtain ⟨x1, e1, rfl, w1⟩ := DataW.trod_int Tryz.underlying23 hy1
 obtain ⟨x2, e2, rfl, w2⟩ := DataW.trod_int Tryz.underlying23 hy2
 obtain ⟨x3, e3, rfl, w3⟩ := DataW.trod_int Tryz.underlying23 hy3
 simp at e0 e1 e2 e3
 subst e0 e1 e2 e3
 simp only [Prod.mk.injEq] at hx
 obtain ⟨rfl, rfl⟩ := hx
 have b0 := bounds_u64' w0; have b1 := bounds_u64' w1; have b2 := bounds_u64' w2; have b3 := bounds_u64' w3
 obtain ⟨n0, rfl⟩ := Int.eq_ofNat_of_zero_le b0.1
 obtain ⟨n1, rfl⟩ := Int.eq_ofNat_of_zero_le b1.1
 obtain ⟨n2, rfl⟩ := Int.eq_ofNat_of_zero_le b2.1
 obtain ⟨n3, rfl⟩ := Int.eq_ofNat_of_zero_le b3.1
 have g := limbs_of n0 n1 n2 n3 (by omega) (by omega) (by omega) (by omega) _ rfl
 refine ⟨_, g.2.2.2.2, ?_, rfl, ?_⟩
 ·rw [← g.1, ← g.2.1, ← g.2.2.1, ← g.2.2.2.1]
 ·rw [← g.1, ← g.2.1, ← g.2.2.1, ← g.2.2.2.1]
set_option maxRecDepth 100000 in
theorem readE {H : Type} {enc : TypeId × Value → H} (W : World) (x : Nat) (sp : Nat → Bool) : DataW.Trod enc Tryz.prog W 0 sp true 25 (.agg #[.int .u64 (limb 0 x), .int .u64 (limb 1 x), .int .u64 (limb 2 x), .int .u64 (limb 3 x)]) (DataW.agg [.lit (.int .u64 (limb 0 x)), .lit (.int .u64 (limb 1 x)), .lit (.int .u64 (limb 2 x)), .lit (.int .u64 (limb 3 x))]) [] := by
 have hw : ∀ i, (Lit.int .u64 (limb i x)).wf = true := fun i => wf_limb (limb i x) (limb_lt i x)
 exact ⟨2, by simp [DataW.trod, Value.cells, Tryz.underlying25, Tryz.underlying23, Tryz.cellsE, Tryz.cellsU, hw, show List.range 4 = [0, 1, 2, 3] from rfl]⟩
theorem Tryz.laidOut : laidOutB Tryz.prog = true := by kernel_rfl
set_option maxRecDepth 100000 in
theorem openL {H : Type} {enc : TypeId × Value → H} {W : World} {base : Nat} {v : Value} {d : DataW H} {p : List MemPlace} (hv : Value.okWide Tryz.prog W .any base 36 v) (h : DataW.Trod enc Tryz.prog W 0 (fun _ => true) true 36 v d p) :
  ∃ (n : Nat) (f : Nat → Nat), Es W v n f ∧ ∀ i, i < n → f i < 115792089237316195423570985008687907853269984665640564039457584007913129639936 := by
 obtain ⟨a0, len, cap, rfl⟩ := okWide_slice Tryz.underlying36 hv
 obtain ⟨fuel, hf⟩ := h
 rcases DataW.trod_slice Tryz.underlying36 hf with ⟨hcs, hx⟩ | ⟨a, len', cap', elems, rest, m, _, hcs, hx, _, hl, hm, hlen, hel, _, _⟩
 ·simp [Value.cells] at hcs
  obtain ⟨rfl, rfl, rfl⟩ := hcs
  exact ⟨0, fun _ => 0, Or.inl ⟨rfl, rfl⟩, fun i hi => by omega⟩
 ·simp [Value.cells] at hcs
  obtain ⟨rfl, rfl, rfl⟩ := hcs
  have hb : a.block < W.heap.size ∧ a.spot = none := by
   have h1 : Value.okWide Tryz.prog W .any base 36 (.slice (some a) len cap) := hv
   simp only [Value.okWide, Cell.okWide, Cell.ok, Tryz.underlying36] at h1
   obtain ⟨_, _, _, hsp, row, cells, hs, _⟩ := h1
   refine ⟨?_, hsp⟩
   rcases Nat.lt_or_ge a.block W.heap.size with h | h
   ·exact h
   ·simp [World.shape?, Array.getElem?_eq_none h] at hs
  obtain ⟨hbl, hsp⟩ := hb
  obtain ⟨b, o, sp⟩ := a
  dsimp only at hsp hbl
  subst hsp
  have each : ∀ i, i < len → ∃ x : Nat, x < 115792089237316195423570985008687907853269984665640564039457584007913129639936 ∧ ∀ j, j < 4 → W.cell? ⟨b, o + i * 4 + j, none⟩ = some (.int .u64 (limb j x)) := by
   intro i hi
   have he := hel i hi
   rw [Tryz.cellsE, List.getElem?_eq_getElem (by omega)] at he
   obtain ⟨cs, hcs, ht⟩ := Option.bind_eq_some_iff.1 he
   obtain ⟨_, hcl, hcc⟩ := World.cells?_some hcs
   obtain ⟨c0, c1, c2, c3, rfl⟩ := list4 cs (by simpa using hcl)
   obtain ⟨y0, y1, y2, y3, k, _, hy0, hy1, hy2, hy3⟩ := trod_array4 Tryz.underlying25 Tryz.cellsU ht
   obtain ⟨x0, e0, _, w0⟩ := DataW.trod_int Tryz.underlying23 hy0
   obtain ⟨x1, e1, _, w1⟩ := DataW.trod_int Tryz.underlying23 hy1
   obtain ⟨x2, e2, _, w2⟩ := DataW.trod_int Tryz.underlying23 hy2
   obtain ⟨x3, e3, _, w3⟩ := DataW.trod_int Tryz.underlying23 hy3
   simp at e0 e1 e2 e3
   subst e0 e1 e2 e3
   have b0 := bounds_u64' w0; have b1 := bounds_u64' w1; have b2 := bounds_u64' w2; have b3 := bounds_u64' w3
   obtain ⟨n0, rfl⟩ := Int.eq_ofNat_of_zero_le b0.1
   obtain ⟨n1, rfl⟩ := Int.eq_ofNat_of_zero_le b1.1
   obtain ⟨n2, rfl⟩ := Int.eq_ofNat_of_zero_le b2.1
   obtain ⟨n3, rfl⟩ := Int.eq_ofNat_of_zero_le b3.1
   have g := limbs_of n0 n1 n2 n3 (by omega) (by omega) (by omega) (by omega) _ rfl
   refine ⟨_, g.2.2.2.2, fun j hj => ?_⟩
   have hc := hcc j hj
   have hadd : ((⟨b, o, none⟩ : Addr).add (i * 4)).add j = ⟨b, o + i * 4 + j, none⟩ := by rw [add_plain, add_plain]
   rw [hadd] at hc
   rw [hc]
   have hj4 : j = 0 ∨ j = 1 ∨ j = 2 ∨ j = 3 := by omega
   rcases hj4 with rfl | rfl | rfl | rfl
   ·rw [← g.1]; rfl
   ·rw [← g.2.1]; rfl
   ·rw [← g.2.2.1]; rfl
   ·rw [← g.2.2.2.1]; rfl
  refine ⟨len, fun i => if h : i < len then (each i h).choose else 0, Or.inr ⟨b, o, cap, rfl, hl, hm, hbl, fun i hi j hj => ?_⟩, fun i hi => ?_⟩
  ·dsimp only
   rw [dif_pos hi]
   exact (each i hi).choose_spec.2 j hj
  ·dsimp only
   rw [dif_pos hi]
   exact (each i hi).choose_spec.1
theorem Tryz.cellsP : Tryz.prog.cellsOf 27 = 9 := by kernel_rfl
theorem Tryz.cellsT : Tryz.prog.cellsOf 4 = 1 := by kernel_rfl
theorem Tryz.undP : Tryz.prog.underlying 27 = some (.struct (Tryz.prog.fieldsOf 27)) := by kernel_rfl
theorem list9 {α : Type} (l : List α) (h : (⟨l⟩ : Array α).size = 9) : ∃ a b c d e f g h i, l = [a, b, c, d, e, f, g, h, i] := by
 match l, h with
 | [a, b, c, d, e, f, g, h, i], _ => exact ⟨a, b, c, d, e, f, g, h, i, rfl⟩
set_option maxRecDepth 100000 in
theorem openQ {H : Type} {enc : TypeId × Value → H} {W : World} {base m : Nat} {sp : Nat → Bool} {held : Bool} {c0 c1 c2 c3 : Value} {x : DataW H × List MemPlace} (h : DataW.trod enc Tryz.prog W base sp held m 25 [c0, c1, c2, c3] = some x) :
  ∃ x : Nat, x < 115792089237316195423570985008687907853269984665640564039457584007913129639936 ∧ c0 = .int .u64 (limb 0 x) ∧ c1 = .int .u64 (limb 1 x) ∧ c2 = .int .u64 (limb 2 x) ∧ c3 = .int .u64 (limb 3 x) := by
 obtain ⟨y0, y1, y2, y3, k, _, hy0, hy1, hy2, hy3⟩ := trod_array4 Tryz.underlying25 Tryz.cellsU h
 obtain ⟨x0, e0, _, w0⟩ := DataW.trod_int Tryz.underlying23 hy0
 obtain ⟨x1, e1, _, w1⟩ := DataW.trod_int Tryz.underlying23 hy1
 obtain ⟨x2, e2, _, w2⟩ := DataW.trod_int Tryz.underlying23 hy2
 obtain ⟨x3, e3, _, w3⟩ := DataW.trod_int Tryz.underlying23 hy3
 simp at e0 e1 e2 e3
 subst e0 e1 e2 e3
 have b0 := bounds_u64' w0; have b1 := bounds_u64' w1; have b2 := bounds_u64' w2; have b3 := bounds_u64' w3
 obtain ⟨n0, rfl⟩ := Int.eq_ofNat_of_zero_le b0.1
 obtain ⟨n1, rfl⟩ := Int.eq_ofNat_of_zero_le b1.1
 obtain ⟨n2, rfl⟩ := Int.eq_ofNat_of_zero_le b2.1
 obtain ⟨n3, rfl⟩ := Int.eq_ofNat_of_zero_le b3.1
 have g := limbs_of n0 n1 n2 n3 (by omega) (by omega) (by omega) (by omega) _ rfl
 refine ⟨_, g.2.2.2.2, ?_, ?_, ?_, ?_⟩
 ·rw [← g.1]
 ·rw [← g.2.1]
 ·rw [← g.2.2.1]
 ·rw [← g.2.2.2.1]
theorem openT {H : Type} {enc : TypeId × Value → H} {W : World} {base m : Nat} {sp : Nat → Bool} {held : Bool} {c : Value} {x : DataW H × List MemPlace} (h : DataW.trod enc Tryz.prog W base sp held m 4 [c] = some x) : ∃ b : Bool, c = .bool b := by
 obtain ⟨b, e, _⟩ := DataW.trod_bool Tryz.underlying4 h
 exact ⟨b, by simpa using e⟩
set_option maxRecDepth 100000 in
theorem openP {H : Type} {enc : TypeId × Value → H} {W : World} {base : Nat} {v : Value} {d : DataW H} {p : List MemPlace} (hv : Value.okWide Tryz.prog W .any base 27 v) (h : DataW.Trod enc Tryz.prog W 0 (fun _ => true) true 27 v d p) :
  ∃ (x y : Nat) (i : Bool), x < 115792089237316195423570985008687907853269984665640564039457584007913129639936 ∧ y < 115792089237316195423570985008687907853269984665640564039457584007913129639936 ∧ v = .agg #[.int .u64 (limb 0 x), .int .u64 (limb 1 x), .int .u64 (limb 2 x), .int .u64 (limb 3 x), .int .u64 (limb 0 y), .int .u64 (limb 1 y), .int .u64 (limb 2 y), .int .u64 (limb 3 y), .bool i] := by
 obtain ⟨cs, rfl, hsz, _⟩ : ∃ cs, v = .agg cs ∧ cs.size = Tryz.prog.cellsOf 27 ∧ Row.okWide Tryz.prog W .any base 27 cs := by
  simpa [Value.okWide, Tryz.undP] using hv
 rw [Tryz.cellsP] at hsz
 obtain ⟨l⟩ := cs
 obtain ⟨c0, c1, c2, c3, c4, c5, c6, c7, c8, rfl⟩ := list9 l hsz
 obtain ⟨fuel, hf0⟩ := h
 obtain ⟨n0, n1, n2, hl, _, _, _, t0, t1, t2, o0, o1, o2⟩ := fieldsPt
 obtain ⟨xs, m, _, _, _, hxl, hf⟩ := DataW.trod_struct Tryz.undP hf0
 have hget : ∀ i (f : Field), (Tryz.prog.fieldsOf 27).toList[i]? = some f → DataW.trod enc Tryz.prog W 0 (fun _ => true) true m f.type (([c0, c1, c2, c3, c4, c5, c6, c7, c8].drop f.offset).take (Tryz.prog.cellsOf f.type)) = xs[i]? := fun i f hi => hf i f (by simpa using hi)
 have hx3 : xs.length = 3 := by rw [hxl]; simpa using congrArg List.length hl
 rw [hl] at hget
 have g0 := hget 0 n0 rfl; have g1 := hget 1 n1 rfl; have g2 := hget 2 n2 rfl
 rw [t0, o0, Tryz.cellsE, List.getElem?_eq_getElem (by omega)] at g0
 rw [t1, o1, Tryz.cellsE, List.getElem?_eq_getElem (by omega)] at g1
 rw [t2, o2, Tryz.cellsT, List.getElem?_eq_getElem (by omega)] at g2
 obtain ⟨x, hx, rfl, rfl, rfl, rfl⟩ := openQ g0
 obtain ⟨y, hy, rfl, rfl, rfl, rfl⟩ := openQ g1
 obtain ⟨i, rfl⟩ := openT g2
 exact ⟨x, y, i, hx, hy, rfl⟩
theorem Tryz.cellsI : Tryz.prog.cellsOf 3 = 1 := by kernel_rfl
theorem Tryz.cellsSP : Tryz.prog.cellsOf 22 = 1 := by kernel_rfl
theorem Tryz.cellsPar : Tryz.prog.cellsOf 29 = 21 := by kernel_rfl
theorem Tryz.undPar : Tryz.prog.underlying 29 = some (.struct (Tryz.prog.fieldsOf 29)) := by kernel_rfl
theorem list21 {α : Type} (l : List α) (h : (⟨l⟩ : Array α).size = 21) : ∃ c0 c1 c2 c3 c4 c5 c6 c7 c8 c9 c10 c11 c12 c13 c14 c15 c16 c17 c18 c19 c20, l = [c0, c1, c2, c3, c4, c5, c6, c7, c8, c9, c10, c11, c12, c13, c14, c15, c16, c17, c18, c19, c20] := by
 match l, h with
 | [c0, c1, c2, c3, c4, c5, c6, c7, c8, c9, c10, c11, c12, c13, c14, c15, c16, c17, c18, c19, c20], _ => exact ⟨c0, c1, c2, c3, c4, c5, c6, c7, c8, c9, c10, c11, c12, c13, c14, c15, c16, c17, c18, c19, c20, rfl⟩
theorem list5g {α : Type} (l : List α) (h : l.length = 5) : ∃ a b c d e, l = [a, b, c, d, e] := by
 match l, h with
 | [a, b, c, d, e], _ => exact ⟨a, b, c, d, e, rfl⟩
theorem fieldsPar : ∃ n0 n1 n2 n3 n4 : Field, (Tryz.prog.fieldsOf 29).toList = [n0, n1, n2, n3, n4] ∧ (n0.type = 3 ∧ n1.type = 3 ∧ n2.type = 22 ∧ n3.type = 27 ∧ n4.type = 27) ∧ n0.offset = 0 ∧ n1.offset = 1 ∧ n2.offset = 2 ∧ n3.offset = 3 ∧ n4.offset = 12 := by
 have h : (Tryz.prog.fieldsOf 29).toList.map (fun f => (f.type, f.offset)) = [(3, 0), (3, 1), (22, 2), (27, 3), (27, 12)] := by kernel_rfl
 have hlen : (Tryz.prog.fieldsOf 29).toList.length = 5 := by
  have := congrArg List.length h
  simpa using this
 obtain ⟨n0, n1, n2, n3, n4, hl⟩ := list5g _ hlen
 rw [hl] at h ⊢
 simp only [List.map_cons, List.map_nil, List.cons.injEq, Prod.mk.injEq, and_true] at h
 obtain ⟨⟨a2, a3⟩, ⟨b2, b3⟩, ⟨c2, c3⟩, ⟨d2, d3⟩, ⟨e2, e3⟩⟩ := h
 exact ⟨n0, n1, n2, n3, n4, rfl, ⟨a2, b2, c2, d2, e2⟩, a3, b3, c3, d3, e3⟩
set_option maxRecDepth 100000 in
theorem openPc {H : Type} {enc : TypeId × Value → H} {W : World} {base m : Nat} {sp : Nat → Bool} {held : Bool} {c0 c1 c2 c3 c4 c5 c6 c7 c8 : Value} {x : DataW H × List MemPlace} (h : DataW.trod enc Tryz.prog W base sp held m 27 [c0, c1, c2, c3, c4, c5, c6, c7, c8] = some x) :
  ∃ T : Nat × Nat × Bool, (T.1 < 115792089237316195423570985008687907853269984665640564039457584007913129639936 ∧ T.2.1 < 115792089237316195423570985008687907853269984665640564039457584007913129639936) ∧ ∀ j, j < 9 → [c0, c1, c2, c3, c4, c5, c6, c7, c8][j]? = some (pC T j) := by
 obtain ⟨p0, p1, p2, pl, _, _, _, u0, u1, u2, q0, q1, q2⟩ := fieldsPt
 obtain ⟨ys, m', _, _, _, hyl, hf2⟩ := DataW.trod_struct Tryz.undP h
 have hget2 : ∀ i (f : Field), (Tryz.prog.fieldsOf 27).toList[i]? = some f → DataW.trod enc Tryz.prog W base sp held m' f.type (([c0, c1, c2, c3, c4, c5, c6, c7, c8].drop f.offset).take (Tryz.prog.cellsOf f.type)) = ys[i]? := fun i f hi => hf2 i f (by simpa using hi)
 have hy3 : ys.length = 3 := by rw [hyl]; simpa using congrArg List.length pl
 rw [pl] at hget2
 have k0 := hget2 0 p0 rfl; have k1 := hget2 1 p1 rfl; have k2 := hget2 2 p2 rfl
 rw [u0, q0, Tryz.cellsE, List.getElem?_eq_getElem (by omega)] at k0
 rw [u1, q1, Tryz.cellsE, List.getElem?_eq_getElem (by omega)] at k1
 rw [u2, q2, Tryz.cellsT, List.getElem?_eq_getElem (by omega)] at k2
 obtain ⟨X, hX, rfl, rfl, rfl, rfl⟩ := openQ k0
 obtain ⟨Y, hY, rfl, rfl, rfl, rfl⟩ := openQ k1
 obtain ⟨I, rfl⟩ := openT k2
 refine ⟨(X, Y, I), ⟨hX, hY⟩, fun j hj => ?_⟩
 have hj' : j = 0 ∨ j = 1 ∨ j = 2 ∨ j = 3 ∨ j = 4 ∨ j = 5 ∨ j = 6 ∨ j = 7 ∨ j = 8 := by omega
 rcases hj' with rfl | rfl | rfl | rfl | rfl | rfl | rfl | rfl | rfl <;> rfl
theorem cells9 {T : Nat × Nat × Bool} {c0 c1 c2 c3 c4 c5 c6 c7 c8 : Value} (h : ∀ j, j < 9 → [c0, c1, c2, c3, c4, c5, c6, c7, c8][j]? = some (pC T j)) : [c0, c1, c2, c3, c4, c5, c6, c7, c8] = (.agg #[.int .u64 (limb 0 (T.1)), .int .u64 (limb 1 (T.1)), .int .u64 (limb 2 (T.1)), .int .u64 (limb 3 (T.1)), .int .u64 (limb 0 (T.2.1)), .int .u64 (limb 1 (T.2.1)), .int .u64 (limb 2 (T.2.1)), .int .u64 (limb 3 (T.2.1)), .bool T.2.2] : Value).cells.toList := by
 have h0 := h 0 (by decide); have h1 := h 1 (by decide); have h2 := h 2 (by decide); have h3 := h 3 (by decide); have h4 := h 4 (by decide); have h5 := h 5 (by decide); have h6 := h 6 (by decide); have h7 := h 7 (by decide); have h8 := h 8 (by decide)
 simp only [List.getElem?_cons_zero, List.getElem?_cons_succ, Option.some.injEq] at h0 h1 h2 h3 h4 h5 h6 h7 h8
 subst h0 h1 h2 h3 h4 h5 h6 h7 h8
 rfl
set_option maxRecDepth 100000 in
theorem openGl {H : Type} {enc : TypeId × Value → H} {W : World} {base m : Nat} {v : Value} {x : DataW H × List MemPlace} (hv : Cell.okWide Tryz.prog W .any base 22 v) (hf : DataW.trod enc Tryz.prog W 0 (fun _ => true) true m 22 [v] = some x) :
  ∃ (n : Nat) (T : Nat → Nat × Nat × Bool), Rs W v 9 n (fun i => pC (T i)) ∧ ∀ i, i < n → (T i).1 < 115792089237316195423570985008687907853269984665640564039457584007913129639936 ∧ (T i).2.1 < 115792089237316195423570985008687907853269984665640564039457584007913129639936 := by
 rcases DataW.trod_slice Tryz.underlying22 hf with ⟨hcs, hx⟩ | ⟨a, len, cap, elems, rest, m, _, hcs, hx, _, hl, hm, hlen, hel, _, _⟩
 ·simp at hcs
  subst hcs
  exact ⟨0, fun _ => (0, 0, false), Or.inl ⟨rfl, rfl⟩, fun i hi => by omega⟩
 ·simp at hcs
  subst hcs
  have hb : a.block < W.heap.size ∧ a.spot = none := by
   have h1 := hv
   simp only [Cell.okWide, Cell.ok, Tryz.underlying22] at h1
   obtain ⟨_, _, _, hsp, row, cells, hs, _⟩ := h1
   refine ⟨?_, hsp⟩
   rcases Nat.lt_or_ge a.block W.heap.size with h | h
   ·exact h
   ·simp [World.shape?, Array.getElem?_eq_none h] at hs
  obtain ⟨hbl, hsp⟩ := hb
  obtain ⟨b, o, sp⟩ := a
  dsimp only at hsp hbl
  subst hsp
  have each : ∀ i, i < len → ∃ T : Nat × Nat × Bool, (T.1 < 115792089237316195423570985008687907853269984665640564039457584007913129639936 ∧ T.2.1 < 115792089237316195423570985008687907853269984665640564039457584007913129639936) ∧ ∀ j, j < 9 → W.cell? ⟨b, o + i * 9 + j, none⟩ = some (pC T j) := by
   intro i hi
   have he := hel i hi
   rw [Tryz.cellsP, List.getElem?_eq_getElem (by omega)] at he
   obtain ⟨cs, hcs, ht⟩ := Option.bind_eq_some_iff.1 he
   obtain ⟨_, hcl, hcc⟩ := World.cells?_some hcs
   obtain ⟨c0, c1, c2, c3, c4, c5, c6, c7, c8, rfl⟩ := list9 cs (by simpa using hcl)
   obtain ⟨T, hT, hc9⟩ := openPc ht
   refine ⟨T, hT, fun j hj => ?_⟩
   have hc := hcc j hj
   have hadd : ((⟨b, o, none⟩ : Addr).add (i * 9)).add j = ⟨b, o + i * 9 + j, none⟩ := by rw [add_plain, add_plain]
   rw [hadd] at hc
   rw [hc]
   exact hc9 j hj
  refine ⟨len, fun i => if h : i < len then (each i h).choose else (0, 0, false), Or.inr ⟨b, o, cap, rfl, hl, hm, hbl, fun i hi j hj => ?_⟩, fun i hi => ?_⟩
  ·dsimp only
   rw [dif_pos hi]
   exact (each i hi).choose_spec.2 j hj
  ·dsimp only
   rw [dif_pos hi]
   exact (each i hi).choose_spec.1
set_option maxRecDepth 100000 in
theorem openG {H : Type} {enc : TypeId × Value → H} {W : World} {base : Nat} {v : Value} {d : DataW H} {p : List MemPlace} (hv : Value.okWide Tryz.prog W .any base 29 v) (h : DataW.Trod enc Tryz.prog W 0 (fun _ => true) true 29 v d p) :
  ∃ (C K : Int) (g : Value) (n : Nat) (G : Nat → Nat × Nat × Bool) (A B : Nat × Nat × Bool), v = parV C K g A B ∧ Rs W g 9 n (fun i => pC (G i)) ∧ (∀ i, i < n → (G i).1 < 115792089237316195423570985008687907853269984665640564039457584007913129639936 ∧ (G i).2.1 < 115792089237316195423570985008687907853269984665640564039457584007913129639936) ∧ (A.1 < 115792089237316195423570985008687907853269984665640564039457584007913129639936 ∧ A.2.1 < 115792089237316195423570985008687907853269984665640564039457584007913129639936) ∧ (B.1 < 115792089237316195423570985008687907853269984665640564039457584007913129639936 ∧ B.2.1 < 115792089237316195423570985008687907853269984665640564039457584007913129639936) := by
 obtain ⟨cs, rfl, hsz, hrow⟩ : ∃ cs, v = .agg cs ∧ cs.size = Tryz.prog.cellsOf 29 ∧ Row.okWide Tryz.prog W .any base 29 cs := by
  simpa [Value.okWide, Tryz.undPar] using hv
 rw [Tryz.cellsPar] at hsz
 obtain ⟨l⟩ := cs
 obtain ⟨c0, c1, c2, c3, c4, c5, c6, c7, c8, c9, c10, c11, c12, c13, c14, c15, c16, c17, c18, c19, c20, rfl⟩ := list21 l hsz
 obtain ⟨fuel, hf0⟩ := h
 obtain ⟨n0, n1, n2, n3, n4, hl, ⟨t0, t1, t2, t3, t4⟩, o0, o1, o2, o3, o4⟩ := fieldsPar
 obtain ⟨xs, m, _, _, _, hxl, hf⟩ := DataW.trod_struct Tryz.undPar hf0
 have hget : ∀ i (f : Field), (Tryz.prog.fieldsOf 29).toList[i]? = some f → DataW.trod enc Tryz.prog W 0 (fun _ => true) true m f.type (([c0, c1, c2, c3, c4, c5, c6, c7, c8, c9, c10, c11, c12, c13, c14, c15, c16, c17, c18, c19, c20].drop f.offset).take (Tryz.prog.cellsOf f.type)) = xs[i]? := fun i f hi => hf i f (by simpa using hi)
 have hx5 : xs.length = 5 := by rw [hxl]; simpa using congrArg List.length hl
 rw [hl] at hget
 have g0 := hget 0 n0 rfl; have g1 := hget 1 n1 rfl; have g2 := hget 2 n2 rfl; have g3 := hget 3 n3 rfl; have g4 := hget 4 n4 rfl
 rw [t0, o0, Tryz.cellsI, List.getElem?_eq_getElem (by omega)] at g0
 rw [t1, o1, Tryz.cellsI, List.getElem?_eq_getElem (by omega)] at g1
 rw [t2, o2, Tryz.cellsSP, List.getElem?_eq_getElem (by omega)] at g2
 rw [t3, o3, Tryz.cellsP, List.getElem?_eq_getElem (by omega)] at g3
 rw [t4, o4, Tryz.cellsP, List.getElem?_eq_getElem (by omega)] at g4
 obtain ⟨C, e0, _, _⟩ := DataW.trod_int Tryz.underlying3 g0
 obtain ⟨K, e1, _, _⟩ := DataW.trod_int Tryz.underlying3 g1
 simp at e0 e1
 subst e0 e1
 have hok : Cell.okWide Tryz.prog W .any base 22 c2 := by
  obtain ⟨ts, hts, _, hall⟩ := hrow
  obtain ⟨u, hu, hcell⟩ := hall 2 c2 rfl
  have hts' : (Tryz.prog.cellTypes Tryz.prog.depth 29).bind (fun ts => ts[2 % ts.length]?) = some 22 := by kernel_rfl
  rw [hts, Option.bind_some, hu] at hts'
  cases hts'
  exact hcell
 obtain ⟨n, G, hR, hG⟩ := openGl hok g2
 obtain ⟨A, hA, cA⟩ := openPc g3
 obtain ⟨B, hB, cB⟩ := openPc g4
 refine ⟨C, K, c2, n, G, A, B, ?_, hR, hG, hA, hB⟩
 have eA := cells9 cA; have eB := cells9 cB
 simp only [Value.cells, List.cons.injEq, and_true] at eA eB
 obtain ⟨rfl, rfl, rfl, rfl, rfl, rfl, rfl, rfl, rfl⟩ := eA
 obtain ⟨rfl, rfl, rfl, rfl, rfl, rfl, rfl, rfl, rfl⟩ := eB
 rfl
theorem door_met (os : Os) (args : Array Value) : laidMetH Tryz.prog laidF ((World.doorLaid Tryz.prog 400 os).forCall (fun _ _ => 0) ⟨#[], args, []⟩).memory :=
 laidMetH_of_parts3 (fuel := 8) (laidMet_of_run' 8 (by kernel_rfl) (by kernel_rfl)) (by kernel_rfl) (by kernel_rfl)
set_option maxHeartbeats 1000000 in
set_option maxRecDepth 100000 in
theorem lifted (os : Os) (started : os.Started) (H : Type) (enc : TypeId × Value → H) :
  ReturnsInHanded {} Tryz.checked os 4 .any (fun w args => (Rows.paramsCommitsSpec.pre enc Tryz.prog Tryz.f4 [] false w args ∧ laidMetH Tryz.prog laidF w) ∧ sizedMet enc Tryz.prog Tryz.f4 (OpenSpec.ofChange Rows.paramsCommitsSpec) false w args)
   (Rows.paramsCommitsSpec.post enc Tryz.prog Tryz.f4 false true false false) := by
 refine returnsInHanded_of_change_and (C := Tryz.checked) (X := fun w _ => laidMetH Tryz.prog laidF w) (fun _ _ _ hh h => h.of_heap hh) Tryz.own started (by kernel_rfl) Tryz.func4
  (ChangeSpec.witness_shaped (enc := enc) (C := Tryz.checked) (os := os) (X := fun w _ => laidMetH Tryz.prog laidF w) false (World.doorLaid Tryz.prog 400 os) #[.agg #[.int .i64 0, .int .i64 0, .slice none 0 0, .int .u64 0, .int .u64 0, .int .u64 0, .int .u64 0, .int .u64 0, .int .u64 0, .int .u64 0, .int .u64 0, .bool false, .int .u64 0, .int .u64 0, .int .u64 0, .int .u64 0, .int .u64 0, .int .u64 0, .int .u64 0, .int .u64 0, .bool false], .slice none 0 0, .agg #[.int .u64 0, .int .u64 0, .int .u64 0, .int .u64 0]] 8 rfl (World.shaped_of_RefB (by kernel_rfl) (by kernel_rfl)) (by kernel_rfl) (by kernel_rfl) (by kernel_rfl) (door_met os _)) ?_
 intro W base args ds gs before hval0 hW _ _ hL _
 have hval : ∀ (j : Nat) t v, Tryz.f4.params[j]? = some t → args[j]? = some v → Value.okWide Tryz.prog W .any base t v := hval0
 have hW' := hW
 obtain ⟨p, q, hA0, hV, rfl, _, _⟩ := hW
 have hA : DataW.TrodAll enc Tryz.prog W 0 (fun _ => true) true Tryz.f4.params.toList args.toList ds p := hA0
 rw [Tryz.params4] at hA hval
 obtain ⟨v0, v1, v2, d0, d1, d2, p0, p1, p2, rfl, rfl, rfl, h0, h1, h2⟩ := trodAll_three hA
 obtain ⟨rfl, rfl⟩ := trodVars_none hV
 have h0k := h0
 obtain ⟨C0, K0, g0, n0, G0, A0, B0, rfl, hR0, hG0, hPA0, hPB0⟩ := openG (hval 0 29 v0 rfl rfl) h0
 have h1k := h1
 obtain ⟨n1, f1, hE1, hf1⟩ := openL (hval 1 36 v1 rfl rfl) h1
 obtain ⟨x2, hx2, rfl, rfl, rfl⟩ := openE (hval 2 25 v2 rfl rfl) h2
 clear hA0 hval0
 simp only [List.append_nil] at hW'
 refine (pcommits_walk C0 K0 g0 n0 G0 A0 B0 n1 v1 f1 x2 hG0 hPA0 hPB0 hf1 hx2 W (globC_of_laid hL) hR0 hE1).mono fun e W' ⟨he, hb⟩ => ?_
 subst he
 have r1 : (Rows.paramsCommitsSpec.fn H ([d0, d1, DataW.agg [.lit (.int .u64 (limb 0 x2)), .lit (.int .u64 (limb 1 x2)), .lit (.int .u64 (limb 2 x2)), .lit (.int .u64 (limb 3 x2))]] ++ [])).results = [.lit (.bool true)] := by simp [Rows.paramsCommitsSpec]
 have a1 : (Rows.paramsCommitsSpec.fn H ([d0, d1, DataW.agg [.lit (.int .u64 (limb 0 x2)), .lit (.int .u64 (limb 1 x2)), .lit (.int .u64 (limb 2 x2)), .lit (.int .u64 (limb 3 x2))]] ++ [])).args = [d0, d1, DataW.agg [.lit (.int .u64 (limb 0 x2)), .lit (.int .u64 (limb 1 x2)), .lit (.int .u64 (limb 2 x2)), .lit (.int .u64 (limb 3 x2))]] := by simp [Rows.paramsCommitsSpec]
 have v1 : (Rows.paramsCommitsSpec.fn H ([d0, d1, DataW.agg [.lit (.int .u64 (limb 0 x2)), .lit (.int .u64 (limb 1 x2)), .lit (.int .u64 (limb 2 x2)), .lit (.int .u64 (limb 3 x2))]] ++ [])).vars = [] := by simp [Rows.paramsCommitsSpec]
 refine ⟨_, rfl, _, _, _, [], (p0 ++ (p1 ++ [])), [], hW', ?_, ?_, ?_, hb.frame _, fun h => by cases h⟩
 ·rw [r1]; exact trodAll_mk1 (shut_bool Tryz.underlying4 true)
 ·rw [a1]; exact trodAll_mk3 (Below.trod Tryz.laidOut (by kernel_rfl) (of_decide_eq_true (by kernel_rfl)) h0k hb (fun x hx => by simpa using hW'.lt x (by simp [hx]))) (Below.trod Tryz.laidOut (by kernel_rfl) (of_decide_eq_true (by kernel_rfl)) h1k hb (fun x hx => by simpa using hW'.lt x (by simp [hx]))) (readE W' x2 _)
 ·rw [v1]; rfl
theorem paramsCommits_holds : Rows.ParamsCommitsSaid :=
 OpenClaim.holds_of_wide 4 Tryz.f4 rfl rfl rfl rfl rfl rfl rfl ⟨rfl, rfl, rfl, rfl, rfl⟩ rfl rfl rfl rfl rfl (by kernel_rfl) Tryz.func4 (by kernel_rfl)
  (of_decide_eq_true (by kernel_rfl)) (by unfold Func.isWrapper; first | (rw [if_pos (by decide +kernel)]; kernel_rfl) | (rw [if_neg (by decide +kernel)]; exact ⟨rfl, rfl⟩))
  (fun os started H enc _ => lifted os started H enc)
theorem paramsCommits_card : Rows.ParamsCommitsCardSaid :=
 Claim7.holds_tied_plain_at .later [] [.data, .data, .data, .data, .data] true (true, "631a5e59bffec5565a94ab14f45ae0082b95593ad19580290bd2c62cea6c2e6e") false
  paramsCommits_holds (fun _ h => by cases h) (by kernel_rfl) (fun _ h => by cases h) paramsCommits_row_tie rfl ⟨rfl, rfl⟩ (by kernel_rfl) rfl
  (fun f fn hf hfn => by
   obtain rfl : f = 4 := Option.some.inj ((show Tryz.prog.funcNamed "sigil/sigillaw09.ParamsCommits" = some 4 by kernel_rfl).symm.trans hf) |>.symm
   obtain rfl : fn = Tryz.f4 := (Option.some.inj (Tryz.func4.symm.trans hfn)).symm
   exact ⟨by kernel_rfl, fun j t ht => by
    rw [Tryz.params4] at ht
    have hm : t ∈ [29, 36, 25] := by simpa using Array.mem_of_getElem? ht
    have hall : ([29, 36, 25].all fun u => !Tryz.prog.wantsStandIn u) = true := by kernel_rfl
    exact (show Tryz.prog.wantsStandIn t = false by simpa using List.all_eq_true.1 hall t hm)⟩)
  (by kernel_rfl)
#print axioms paramsCommits_card
end Go.Proofs.YtdeijnlbencfdaaGreatDoor
