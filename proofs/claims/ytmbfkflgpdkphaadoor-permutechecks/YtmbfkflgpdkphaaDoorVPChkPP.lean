/- PermuteChecks: for every sort, spot, columns, sigmas, chunks, beta and gamma the call returns true: Checks answers what the reference answers, and the columns and sigmas are left as they were (lists of more than 20 are passed by). Condition: the variables of packages field and domain read as the text lays them when the call begins (the card ties them). -/
import Derived.Test.YtmbfkflgpdkphaaDoorRows
import Derived.Test.YtmbfkflgpdkphaaDoorVDG
import Derived.Test.YtmbfkflgpdkphaaDoorVPE4
import Derived.Test.YtmbfkflgpdkphaaDoorVBA
import Derived.Test.YtmbfkflgpdkphaaDoorTie
import Derived.Test.YtmbfkflgpdkphaaDoorCards
import Derived.SevenTiedAt
import Derived.SizedLaws
import Derived.ProofKit
import Derived.Laws.IdiomArrays
namespace Go.Proofs.YtmbfkflgpdkphaaDoor
open Go.ChangeShapes Go.WideShapes Go.ChangeAt Go.RowKit
open Go.WideMaps Go.WideElems
open Go.ChangeMaps (setBlock shut_map_nil open_string shut_string keptBut_setBlock frozen?_setBlock heap_setBlock_same)
theorem Tryd.own : ownKnob Tryd.prog.godebug = none := by kernel_rfl
theorem Tryd.cellsU : Tryd.prog.cellsOf 22 = 1 := by kernel_rfl
theorem Tryd.cellsE : Tryd.prog.cellsOf 24 = 4 := by kernel_rfl
theorem list4 {α : Type} (l : List α) (h : (⟨l⟩ : Array α).size = 4) : ∃ a b c d, l = [a, b, c, d] := by
  match l, h with
  | [a, b, c, d], _ => exact ⟨a, b, c, d, rfl⟩
set_option maxRecDepth 100000 in
/-- An array of four words that is read is the words of a number below 2^256. -/
theorem openE {H : Type} {enc : TypeId × Value → H} {W : World} {base : Nat} {v : Value} {d : DataW H} {p : List MemPlace} (hv : Value.okWide Tryd.prog W .any base 24 v) (h : DataW.Trod enc Tryd.prog W 0 (fun _ => true) true 24 v d p) :
    ∃ x : Nat, x < 115792089237316195423570985008687907853269984665640564039457584007913129639936 ∧ v = .agg #[.int .u64 ((limb 0 (x) : Nat) : Int), .int .u64 ((limb 1 (x) : Nat) : Int), .int .u64 ((limb 2 (x) : Nat) : Int), .int .u64 ((limb 3 (x) : Nat) : Int)] ∧ p = [] ∧ d = .agg [.lit (.int .u64 ((limb 0 x : Nat) : Int)), .lit (.int .u64 ((limb 1 x : Nat) : Int)), .lit (.int .u64 ((limb 2 x : Nat) : Int)), .lit (.int .u64 ((limb 3 x : Nat) : Int))] := by
  obtain ⟨cs, rfl, hsz, _⟩ : ∃ cs, v = .agg cs ∧ cs.size = Tryd.prog.cellsOf 24 ∧ Row.okWide Tryd.prog W .any base 24 cs := by
    simpa [Value.okWide, Tryd.underlying24] using hv
  rw [Tryd.cellsE] at hsz
  obtain ⟨l⟩ := cs
  obtain ⟨c0, c1, c2, c3, rfl⟩ := list4 l hsz
  obtain ⟨fuel, hf⟩ := h
  obtain ⟨y0, y1, y2, y3, m, hx, hy0, hy1, hy2, hy3⟩ := trod_array4 Tryd.underlying24 Tryd.cellsU hf
  obtain ⟨x0, e0, rfl, w0⟩ := DataW.trod_int Tryd.underlying22 hy0
  obtain ⟨x1, e1, rfl, w1⟩ := DataW.trod_int Tryd.underlying22 hy1
  obtain ⟨x2, e2, rfl, w2⟩ := DataW.trod_int Tryd.underlying22 hy2
  obtain ⟨x3, e3, rfl, w3⟩ := DataW.trod_int Tryd.underlying22 hy3
  simp at e0 e1 e2 e3
  subst e0 e1 e2 e3
  simp only [Prod.mk.injEq] at hx
  obtain ⟨rfl, rfl⟩ := hx
  have b0 := bounds_u64' w0; have b1 := bounds_u64' w1; have b2 := bounds_u64' w2; have b3 := bounds_u64' w3
  obtain ⟨n0, rfl⟩ := Int.eq_ofNat_of_zero_le b0.1
  obtain ⟨n1, rfl⟩ := Int.eq_ofNat_of_zero_le b1.1
  obtain ⟨n2, rfl⟩ := Int.eq_ofNat_of_zero_le b2.1
  obtain ⟨n3, rfl⟩ := Int.eq_ofNat_of_zero_le b3.1
  have g := limbs_of n0 n1 n2 n3 (by omega) (by omega) (by omega) (by omega) _ rfl
  refine ⟨_, g.2.2.2.2, ?_, rfl, ?_⟩
  · rw [← g.1, ← g.2.1, ← g.2.2.1, ← g.2.2.2.1]
  · rw [← g.1, ← g.2.1, ← g.2.2.1, ← g.2.2.2.1]
set_option maxRecDepth 100000 in
theorem readE {H : Type} {enc : TypeId × Value → H} (W : World) (x : Nat) (sp : Nat → Bool) : DataW.Trod enc Tryd.prog W 0 sp true 24 (.agg #[.int .u64 ((limb 0 (x) : Nat) : Int), .int .u64 ((limb 1 (x) : Nat) : Int), .int .u64 ((limb 2 (x) : Nat) : Int), .int .u64 ((limb 3 (x) : Nat) : Int)]) (DataW.agg [.lit (.int .u64 ((limb 0 x : Nat) : Int)), .lit (.int .u64 ((limb 1 x : Nat) : Int)), .lit (.int .u64 ((limb 2 x : Nat) : Int)), .lit (.int .u64 ((limb 3 x : Nat) : Int))]) [] := by
  have hw : ∀ i, (Lit.int .u64 ((limb i x : Nat) : Int)).wf = true := fun i => wf_limb (limb i x) (limb_lt i x)
  exact ⟨2, by simp [DataW.trod, Value.cells, Tryd.underlying24, Tryd.underlying22, Tryd.cellsE, Tryd.cellsU, hw, show List.range 4 = [0, 1, 2, 3] from rfl]⟩
theorem Tryd.laidOut : laidOutB Tryd.prog = true := by kernel_rfl
set_option maxRecDepth 100000 in
/-- A slice of elements that is read. -/
theorem openL {H : Type} {enc : TypeId × Value → H} {W : World} {base : Nat} {v : Value} {d : DataW H} {p : List MemPlace} (hv : Value.okWide Tryd.prog W .any base 32 v) (h : DataW.Trod enc Tryd.prog W 0 (fun _ => true) true 32 v d p) :
    ∃ (n : Nat) (f : Nat → Nat), Es W v n f ∧ ∀ i, i < n → f i < 115792089237316195423570985008687907853269984665640564039457584007913129639936 := by
  obtain ⟨a0, len, cap, rfl⟩ := okWide_slice Tryd.underlying32 hv
  obtain ⟨fuel, hf⟩ := h
  rcases DataW.trod_slice Tryd.underlying32 hf with ⟨hcs, hx⟩ | ⟨a, len', cap', elems, rest, m, _, hcs, hx, _, hl, hm, hlen, hel, _, _⟩
  · simp [Value.cells] at hcs
    obtain ⟨rfl, rfl, rfl⟩ := hcs
    exact ⟨0, fun _ => 0, Or.inl ⟨rfl, rfl⟩, fun i hi => by omega⟩
  · simp [Value.cells] at hcs
    obtain ⟨rfl, rfl, rfl⟩ := hcs
    have hb : a.block < W.heap.size ∧ a.spot = none := by
      have h1 : Value.okWide Tryd.prog W .any base 32 (.slice (some a) len cap) := hv
      simp only [Value.okWide, Cell.okWide, Cell.ok, Tryd.underlying32] at h1
      obtain ⟨_, _, _, hsp, row, cells, hs, _⟩ := h1
      refine ⟨?_, hsp⟩
      rcases Nat.lt_or_ge a.block W.heap.size with h | h
      · exact h
      · simp [World.shape?, Array.getElem?_eq_none h] at hs
    obtain ⟨hbl, hsp⟩ := hb
    obtain ⟨b, o, sp⟩ := a
    dsimp only at hsp hbl
    subst hsp
    have each : ∀ i, i < len → ∃ x : Nat, x < 115792089237316195423570985008687907853269984665640564039457584007913129639936 ∧ ∀ j, j < 4 → W.cell? ⟨b, o + i * 4 + j, none⟩ = some (.int .u64 ((limb j x : Nat) : Int)) := by
      intro i hi
      have he := hel i hi
      rw [Tryd.cellsE, List.getElem?_eq_getElem (by omega)] at he
      obtain ⟨cs, hcs, ht⟩ := Option.bind_eq_some_iff.1 he
      obtain ⟨_, hcl, hcc⟩ := World.cells?_some hcs
      obtain ⟨c0, c1, c2, c3, rfl⟩ := list4 cs (by simpa using hcl)
      obtain ⟨y0, y1, y2, y3, k, _, hy0, hy1, hy2, hy3⟩ := trod_array4 Tryd.underlying24 Tryd.cellsU ht
      obtain ⟨x0, e0, _, w0⟩ := DataW.trod_int Tryd.underlying22 hy0
      obtain ⟨x1, e1, _, w1⟩ := DataW.trod_int Tryd.underlying22 hy1
      obtain ⟨x2, e2, _, w2⟩ := DataW.trod_int Tryd.underlying22 hy2
      obtain ⟨x3, e3, _, w3⟩ := DataW.trod_int Tryd.underlying22 hy3
      simp at e0 e1 e2 e3
      subst e0 e1 e2 e3
      have b0 := bounds_u64' w0; have b1 := bounds_u64' w1; have b2 := bounds_u64' w2; have b3 := bounds_u64' w3
      obtain ⟨n0, rfl⟩ := Int.eq_ofNat_of_zero_le b0.1
      obtain ⟨n1, rfl⟩ := Int.eq_ofNat_of_zero_le b1.1
      obtain ⟨n2, rfl⟩ := Int.eq_ofNat_of_zero_le b2.1
      obtain ⟨n3, rfl⟩ := Int.eq_ofNat_of_zero_le b3.1
      have g := limbs_of n0 n1 n2 n3 (by omega) (by omega) (by omega) (by omega) _ rfl
      refine ⟨_, g.2.2.2.2, fun j hj => ?_⟩
      have hc := hcc j hj
      have hadd : ((⟨b, o, none⟩ : Addr).add (i * 4)).add j = ⟨b, o + i * 4 + j, none⟩ := by rw [add_plain, add_plain]
      rw [hadd] at hc
      rw [hc]
      have hj4 : j = 0 ∨ j = 1 ∨ j = 2 ∨ j = 3 := by omega
      rcases hj4 with rfl | rfl | rfl | rfl
      · rw [← g.1]; rfl
      · rw [← g.2.1]; rfl
      · rw [← g.2.2.1]; rfl
      · rw [← g.2.2.2.1]; rfl
    refine ⟨len, fun i => if h : i < len then (each i h).choose else 0, Or.inr ⟨b, o, cap, rfl, hl, hm, hbl, fun i hi j hj => ?_⟩, fun i hi => ?_⟩
    · dsimp only
      rw [dif_pos hi]
      exact (each i hi).choose_spec.2 j hj
    · dsimp only
      rw [dif_pos hi]
      exact (each i hi).choose_spec.1
set_option maxRecDepth 100000 in
/-- Four cells that are read as an element are the words of a number below 2^256. -/
theorem openQ {H : Type} {enc : TypeId × Value → H} {W : World} {base m : Nat} {sp : Nat → Bool} {held : Bool} {c0 c1 c2 c3 : Value} {x : DataW H × List MemPlace} (h : DataW.trod enc Tryd.prog W base sp held m 24 [c0, c1, c2, c3] = some x) :
    ∃ x : Nat, x < 115792089237316195423570985008687907853269984665640564039457584007913129639936 ∧ c0 = .int .u64 ((limb 0 x : Nat) : Int) ∧ c1 = .int .u64 ((limb 1 x : Nat) : Int) ∧ c2 = .int .u64 ((limb 2 x : Nat) : Int) ∧ c3 = .int .u64 ((limb 3 x : Nat) : Int) := by
  obtain ⟨y0, y1, y2, y3, k, _, hy0, hy1, hy2, hy3⟩ := trod_array4 Tryd.underlying24 Tryd.cellsU h
  obtain ⟨x0, e0, _, w0⟩ := DataW.trod_int Tryd.underlying22 hy0
  obtain ⟨x1, e1, _, w1⟩ := DataW.trod_int Tryd.underlying22 hy1
  obtain ⟨x2, e2, _, w2⟩ := DataW.trod_int Tryd.underlying22 hy2
  obtain ⟨x3, e3, _, w3⟩ := DataW.trod_int Tryd.underlying22 hy3
  simp at e0 e1 e2 e3
  subst e0 e1 e2 e3
  have b0 := bounds_u64' w0; have b1 := bounds_u64' w1; have b2 := bounds_u64' w2; have b3 := bounds_u64' w3
  obtain ⟨n0, rfl⟩ := Int.eq_ofNat_of_zero_le b0.1
  obtain ⟨n1, rfl⟩ := Int.eq_ofNat_of_zero_le b1.1
  obtain ⟨n2, rfl⟩ := Int.eq_ofNat_of_zero_le b2.1
  obtain ⟨n3, rfl⟩ := Int.eq_ofNat_of_zero_le b3.1
  have g := limbs_of n0 n1 n2 n3 (by omega) (by omega) (by omega) (by omega) _ rfl
  refine ⟨_, g.2.2.2.2, ?_, ?_, ?_, ?_⟩
  · rw [← g.1]
  · rw [← g.2.1]
  · rw [← g.2.2.1]
  · rw [← g.2.2.2.1]
theorem Tryd.cellsSpot : Tryd.prog.cellsOf 27 = 16 := by kernel_rfl
theorem Tryd.undSpot : Tryd.prog.underlying 27 = some (.struct (Tryd.prog.fieldsOf 27)) := by kernel_rfl
theorem listSpot {α : Type} (l : List α) (h : (⟨l⟩ : Array α).size = 16) : ∃ c0 c1 c2 c3 c4 c5 c6 c7 c8 c9 c10 c11 c12 c13 c14 c15, l = [c0, c1, c2, c3, c4, c5, c6, c7, c8, c9, c10, c11, c12, c13, c14, c15] := by
  match l, h with
  | [c0, c1, c2, c3, c4, c5, c6, c7, c8, c9, c10, c11, c12, c13, c14, c15], _ => exact ⟨c0, c1, c2, c3, c4, c5, c6, c7, c8, c9, c10, c11, c12, c13, c14, c15, rfl⟩
theorem flSpot {α : Type} (l : List α) (h : l.length = 4) : ∃ a0 a1 a2 a3, l = [a0, a1, a2, a3] := by
  match l, h with
  | [a0, a1, a2, a3], _ => exact ⟨a0, a1, a2, a3, rfl⟩
theorem fieldsSpot : ∃ n0 n1 n2 n3 : Field, (Tryd.prog.fieldsOf 27).toList = [n0, n1, n2, n3] ∧ (n0.type = 24 ∧ n1.type = 24 ∧ n2.type = 24 ∧ n3.type = 24) ∧ n0.offset = 0 ∧ n1.offset = 4 ∧ n2.offset = 8 ∧ n3.offset = 12 := by
  have h : (Tryd.prog.fieldsOf 27).toList.map (fun f => (f.type, f.offset)) = [(24, 0), (24, 4), (24, 8), (24, 12)] := by kernel_rfl
  have hlen : (Tryd.prog.fieldsOf 27).toList.length = 4 := by
    have := congrArg List.length h
    simpa using this
  obtain ⟨n0, n1, n2, n3, hl⟩ := flSpot _ hlen
  rw [hl] at h ⊢
  simp only [List.map_cons, List.map_nil, List.cons.injEq, Prod.mk.injEq, and_true] at h
  obtain ⟨⟨u0, w0⟩, ⟨u1, w1⟩, ⟨u2, w2⟩, ⟨u3, w3⟩⟩ := h
  exact ⟨n0, n1, n2, n3, rfl, ⟨u0, u1, u2, u3⟩, w0, w1, w2, w3⟩
set_option maxRecDepth 100000 in
/-- A struct of 4 elements that is read. -/
theorem openX {H : Type} {enc : TypeId × Value → H} {W : World} {base : Nat} {v : Value} {d : DataW H} {p : List MemPlace} (hv : Value.okWide Tryd.prog W .any base 27 v) (h : DataW.Trod enc Tryd.prog W 0 (fun _ => true) true 27 v d p) :
    ∃ (cs : Array Value) (x0 x1 x2 x3 : Nat), v = .agg cs ∧ SpV cs x0 x1 x2 x3 ∧ x0 < 115792089237316195423570985008687907853269984665640564039457584007913129639936 ∧ x1 < 115792089237316195423570985008687907853269984665640564039457584007913129639936 ∧ x2 < 115792089237316195423570985008687907853269984665640564039457584007913129639936 ∧ x3 < 115792089237316195423570985008687907853269984665640564039457584007913129639936 := by
  obtain ⟨cs, rfl, hsz, _⟩ : ∃ cs, v = .agg cs ∧ cs.size = Tryd.prog.cellsOf 27 ∧ Row.okWide Tryd.prog W .any base 27 cs := by
    simpa [Value.okWide, Tryd.undSpot] using hv
  rw [Tryd.cellsSpot] at hsz
  obtain ⟨l⟩ := cs
  obtain ⟨c0, c1, c2, c3, c4, c5, c6, c7, c8, c9, c10, c11, c12, c13, c14, c15, rfl⟩ := listSpot l hsz
  obtain ⟨fuel, hf0⟩ := h
  obtain ⟨n0, n1, n2, n3, hl, ⟨t0, t1, t2, t3⟩, o0, o1, o2, o3⟩ := fieldsSpot
  obtain ⟨xs, m, _, _, _, hxl, hf⟩ := DataW.trod_struct Tryd.undSpot hf0
  have hget : ∀ i (f : Field), (Tryd.prog.fieldsOf 27).toList[i]? = some f → DataW.trod enc Tryd.prog W 0 (fun _ => true) true m f.type (([c0, c1, c2, c3, c4, c5, c6, c7, c8, c9, c10, c11, c12, c13, c14, c15].drop f.offset).take (Tryd.prog.cellsOf f.type)) = xs[i]? := fun i f hi => hf i f (by simpa using hi)
  have hxn : xs.length = 4 := by rw [hxl]; simpa using congrArg List.length hl
  rw [hl] at hget
  have g0 := hget 0 n0 rfl
  rw [t0, o0, Tryd.cellsE, List.getElem?_eq_getElem (by omega)] at g0
  obtain ⟨x0, hx0, rfl, rfl, rfl, rfl⟩ := openQ g0
  have g1 := hget 1 n1 rfl
  rw [t1, o1, Tryd.cellsE, List.getElem?_eq_getElem (by omega)] at g1
  obtain ⟨x1, hx1, rfl, rfl, rfl, rfl⟩ := openQ g1
  have g2 := hget 2 n2 rfl
  rw [t2, o2, Tryd.cellsE, List.getElem?_eq_getElem (by omega)] at g2
  obtain ⟨x2, hx2, rfl, rfl, rfl, rfl⟩ := openQ g2
  have g3 := hget 3 n3 rfl
  rw [t3, o3, Tryd.cellsE, List.getElem?_eq_getElem (by omega)] at g3
  obtain ⟨x3, hx3, rfl, rfl, rfl, rfl⟩ := openQ g3
  exact ⟨_, x0, x1, x2, x3, rfl, ⟨rfl, ⟨rfl, rfl, rfl, rfl⟩, ⟨rfl, rfl, rfl, rfl⟩, ⟨rfl, rfl, rfl, rfl⟩, ⟨rfl, rfl, rfl, rfl⟩⟩, hx0, hx1, hx2, hx3⟩
theorem Tryd.cellsCh : Tryd.prog.cellsOf 62 = 12 := by kernel_rfl
theorem Tryd.undCh : Tryd.prog.underlying 62 = some (.struct (Tryd.prog.fieldsOf 62)) := by kernel_rfl
theorem list12 {α : Type} (l : List α) (h : (⟨l⟩ : Array α).size = 12) : ∃ c0 c1 c2 c3 c4 c5 c6 c7 c8 c9 ca cb, l = [c0, c1, c2, c3, c4, c5, c6, c7, c8, c9, ca, cb] := by
  match l, h with
  | [c0, c1, c2, c3, c4, c5, c6, c7, c8, c9, ca, cb], _ => exact ⟨c0, c1, c2, c3, c4, c5, c6, c7, c8, c9, ca, cb, rfl⟩
theorem flCh {α : Type} (l : List α) (h : l.length = 3) : ∃ n0 n1 n2, l = [n0, n1, n2] := by
  match l, h with
  | [n0, n1, n2], _ => exact ⟨n0, n1, n2, rfl⟩
theorem fieldsCh : ∃ n0 n1 n2 : Field, (Tryd.prog.fieldsOf 62).toList = [n0, n1, n2] ∧ (n0.type = 24 ∧ n1.type = 24 ∧ n2.type = 24) ∧ n0.offset = 0 ∧ n1.offset = 4 ∧ n2.offset = 8 := by
  have h : (Tryd.prog.fieldsOf 62).toList.map (fun f => (f.type, f.offset)) = [(24, 0), (24, 4), (24, 8)] := by kernel_rfl
  have hlen : (Tryd.prog.fieldsOf 62).toList.length = 3 := by
    have := congrArg List.length h
    simpa using this
  obtain ⟨n0, n1, n2, hl⟩ := flCh _ hlen
  rw [hl] at h ⊢
  simp only [List.map_cons, List.map_nil, List.cons.injEq, Prod.mk.injEq, and_true] at h
  obtain ⟨⟨u0, w0⟩, ⟨u1, w1⟩, u2, w2⟩ := h
  exact ⟨n0, n1, n2, rfl, ⟨u0, u1, u2⟩, w0, w1, w2⟩
set_option maxRecDepth 100000 in
/-- Twelve cells that are read as a chunk are three numbers. -/
theorem openUc {H : Type} {enc : TypeId × Value → H} {W : World} {fuel : Nat} {l : List Value} {x : DataW H × List MemPlace} (hl12 : (⟨l⟩ : Array Value).size = 12) (h : DataW.trod enc Tryd.prog W 0 (fun _ => true) true fuel 62 l = some x) :
    ∃ t : Nat × Nat × Nat, (t.1 < 115792089237316195423570985008687907853269984665640564039457584007913129639936 ∧ t.2.1 < 115792089237316195423570985008687907853269984665640564039457584007913129639936 ∧ t.2.2 < 115792089237316195423570985008687907853269984665640564039457584007913129639936) ∧ (∀ j, j < 4 → l[j]? = some (.int .u64 ((limb j t.1 : Nat) : Int))) ∧ (∀ j, j < 4 → l[4 + j]? = some (.int .u64 ((limb j t.2.1 : Nat) : Int))) ∧ ∀ j, j < 4 → l[8 + j]? = some (.int .u64 ((limb j t.2.2 : Nat) : Int)) := by
  obtain ⟨c0, c1, c2, c3, c4, c5, c6, c7, c8, c9, ca, cb, rfl⟩ := list12 l hl12
  obtain ⟨n0, n1, n2, hl, ⟨t0, t1, t2⟩, o0, o1, o2⟩ := fieldsCh
  obtain ⟨xs, m, _, _, _, hxl, hf⟩ := DataW.trod_struct Tryd.undCh h
  have hget : ∀ i (f : Field), (Tryd.prog.fieldsOf 62).toList[i]? = some f → DataW.trod enc Tryd.prog W 0 (fun _ => true) true m f.type (([c0, c1, c2, c3, c4, c5, c6, c7, c8, c9, ca, cb].drop f.offset).take (Tryd.prog.cellsOf f.type)) = xs[i]? := fun i f hi => hf i f (by simpa using hi)
  have hxn : xs.length = 3 := by rw [hxl]; simpa using congrArg List.length hl
  rw [hl] at hget
  have g0 := hget 0 n0 rfl
  rw [t0, o0, Tryd.cellsE, List.getElem?_eq_getElem (by omega)] at g0
  obtain ⟨x0, hx0, rfl, rfl, rfl, rfl⟩ := openQ g0
  have g1 := hget 1 n1 rfl
  rw [t1, o1, Tryd.cellsE, List.getElem?_eq_getElem (by omega)] at g1
  obtain ⟨x1, hx1, rfl, rfl, rfl, rfl⟩ := openQ g1
  have g2 := hget 2 n2 rfl
  rw [t2, o2, Tryd.cellsE, List.getElem?_eq_getElem (by omega)] at g2
  obtain ⟨x2, hx2, rfl, rfl, rfl, rfl⟩ := openQ g2
  refine ⟨(x0, x1, x2), ⟨hx0, hx1, hx2⟩, fun j hj => ?_, fun j hj => ?_, fun j hj => ?_⟩
  · have hj4 : j = 0 ∨ j = 1 ∨ j = 2 ∨ j = 3 := by omega
    rcases hj4 with rfl | rfl | rfl | rfl <;> rfl
  · have hj4 : j = 0 ∨ j = 1 ∨ j = 2 ∨ j = 3 := by omega
    rcases hj4 with rfl | rfl | rfl | rfl <;> rfl
  · have hj4 : j = 0 ∨ j = 1 ∨ j = 2 ∨ j = 3 := by omega
    rcases hj4 with rfl | rfl | rfl | rfl <;> rfl
set_option maxRecDepth 100000 in
/-- A slice of chunks that is read. -/
theorem openU {H : Type} {enc : TypeId × Value → H} {W : World} {base : Nat} {v : Value} {d : DataW H} {p : List MemPlace} (hv : Value.okWide Tryd.prog W .any base 33 v) (h : DataW.Trod enc Tryd.prog W 0 (fun _ => true) true 33 v d p) :
    ∃ (n : Nat) (T : Nat → Nat × Nat × Nat), Zn W v n (fun i => (T i).1) (fun i => (T i).2.1) (fun i => (T i).2.2) ∧ ∀ i, i < n → (T i).1 < 115792089237316195423570985008687907853269984665640564039457584007913129639936 ∧ (T i).2.1 < 115792089237316195423570985008687907853269984665640564039457584007913129639936 ∧ (T i).2.2 < 115792089237316195423570985008687907853269984665640564039457584007913129639936 := by
  obtain ⟨a0, len, cap, rfl⟩ := okWide_slice Tryd.underlying33 hv
  obtain ⟨fuel, hf⟩ := h
  rcases DataW.trod_slice Tryd.underlying33 hf with ⟨hcs, hx⟩ | ⟨a, len', cap', elems, rest, m, _, hcs, hx, _, hl, hm, hlen, hel, _, _⟩
  · simp [Value.cells] at hcs
    obtain ⟨rfl, rfl, rfl⟩ := hcs
    exact ⟨0, fun _ => (0, 0, 0), Or.inl ⟨rfl, rfl⟩, fun i hi => by omega⟩
  · simp [Value.cells] at hcs
    obtain ⟨rfl, rfl, rfl⟩ := hcs
    have hb : a.block < W.heap.size ∧ a.spot = none := by
      have h1 : Value.okWide Tryd.prog W .any base 33 (.slice (some a) len cap) := hv
      simp only [Value.okWide, Cell.okWide, Cell.ok, Tryd.underlying33] at h1
      obtain ⟨_, _, _, hsp, row, cells, hs, _⟩ := h1
      refine ⟨?_, hsp⟩
      rcases Nat.lt_or_ge a.block W.heap.size with h | h
      · exact h
      · simp [World.shape?, Array.getElem?_eq_none h] at hs
    obtain ⟨hbl, hsp⟩ := hb
    obtain ⟨b, o, sp⟩ := a
    dsimp only at hsp hbl
    subst hsp
    have each : ∀ i, i < len → ∃ t : Nat × Nat × Nat, (t.1 < 115792089237316195423570985008687907853269984665640564039457584007913129639936 ∧ t.2.1 < 115792089237316195423570985008687907853269984665640564039457584007913129639936 ∧ t.2.2 < 115792089237316195423570985008687907853269984665640564039457584007913129639936) ∧ (∀ j, j < 4 → W.cell? ⟨b, o + i * 12 + j, none⟩ = some (.int .u64 ((limb j t.1 : Nat) : Int))) ∧ (∀ j, j < 4 → W.cell? ⟨b, o + i * 12 + 4 + j, none⟩ = some (.int .u64 ((limb j t.2.1 : Nat) : Int))) ∧ ∀ j, j < 4 → W.cell? ⟨b, o + i * 12 + 8 + j, none⟩ = some (.int .u64 ((limb j t.2.2 : Nat) : Int)) := by
      intro i hi
      have he := hel i hi
      rw [Tryd.cellsCh, List.getElem?_eq_getElem (by omega)] at he
      obtain ⟨cs, hcs, ht⟩ := Option.bind_eq_some_iff.1 he
      obtain ⟨_, hcl, hcc⟩ := World.cells?_some hcs
      obtain ⟨t, ht1, ht2, ht3, ht4⟩ := openUc (by simpa using hcl) ht
      have hadd : ∀ j, ((⟨b, o, none⟩ : Addr).add (i * 12)).add j = ⟨b, o + i * 12 + j, none⟩ := fun j => by rw [add_plain, add_plain]
      refine ⟨t, ht1, fun j hj => ?_, fun j hj => ?_, fun j hj => ?_⟩
      · have hc := hcc j (by omega)
        rw [hadd, ht2 j hj] at hc
        exact hc
      · have hc := hcc (4 + j) (by omega)
        rw [hadd, ht3 j hj, ← Nat.add_assoc] at hc
        exact hc
      · have hc := hcc (8 + j) (by omega)
        rw [hadd, ht4 j hj, ← Nat.add_assoc] at hc
        exact hc
    refine ⟨len, fun i => if h : i < len then (each i h).choose else (0, 0, 0), Or.inr ⟨b, o, cap, rfl, hl, hm, hbl, fun i hi => ?_⟩, fun i hi => ?_⟩
    · dsimp only
      rw [dif_pos hi]
      exact (each i hi).choose_spec.2
    · dsimp only
      rw [dif_pos hi]
      exact (each i hi).choose_spec.1
section
variable {H : Type} {enc : TypeId × Value → H} {P : Program} {w : World} {base : Nat} {spare : Nat → Bool} {held : Bool}
theorem trodAll_n5 {t0 t1 t2 t3 t4 : TypeId} {args : Array Value} {ds : List (DataW H)} {ps : List MemPlace} (h : DataW.TrodAll enc P w base spare held [t0, t1, t2, t3, t4] args.toList ds ps) :
    ∃ v0 v1 v2 v3 v4 d0 d1 d2 d3 d4 p0 p1 p2 p3 p4, args = #[v0, v1, v2, v3, v4] ∧ ds = [d0, d1, d2, d3, d4] ∧ ps = (p0 ++ (p1 ++ (p2 ++ (p3 ++ p4)))) ∧ DataW.Trod enc P w base spare held t0 v0 d0 p0 ∧ DataW.Trod enc P w base spare held t1 v1 d1 p1 ∧ DataW.Trod enc P w base spare held t2 v2 d2 p2 ∧ DataW.Trod enc P w base spare held t3 v3 d3 p3 ∧ DataW.Trod enc P w base spare held t4 v4 d4 p4 := by
  obtain ⟨v0, vs0, d0, ds0, p0, q0, hargs, rfl, rfl, hd0, hr0⟩ := trodAll_cons h
  obtain ⟨v1, vs1, d1, ds1, p1, q1, rfl, rfl, rfl, hd1, hr1⟩ := trodAll_cons hr0
  obtain ⟨v2, vs2, d2, ds2, p2, q2, rfl, rfl, rfl, hd2, hr2⟩ := trodAll_cons hr1
  obtain ⟨v3, vs3, d3, ds3, p3, q3, rfl, rfl, rfl, hd3, hr3⟩ := trodAll_cons hr2
  obtain ⟨v4, vs4, d4, ds4, p4, q4, rfl, rfl, rfl, hd4, hr4⟩ := trodAll_cons hr3
  obtain ⟨rfl, rfl, rfl⟩ := trodAll_nil hr4
  exact ⟨v0, v1, v2, v3, v4, d0, d1, d2, d3, d4, p0, p1, p2, p3, p4, by cases args; simp_all, rfl, by simp, hd0, hd1, hd2, hd3, hd4⟩
theorem trodAll_m5 {t0 t1 t2 t3 t4 : TypeId} {v0 v1 v2 v3 v4 : Value} {d0 d1 d2 d3 d4 : DataW H} {p0 p1 p2 p3 p4 : List MemPlace} (h0 : DataW.Trod enc P w base spare held t0 v0 d0 p0) (h1 : DataW.Trod enc P w base spare held t1 v1 d1 p1) (h2 : DataW.Trod enc P w base spare held t2 v2 d2 p2) (h3 : DataW.Trod enc P w base spare held t3 v3 d3 p3) (h4 : DataW.Trod enc P w base spare held t4 v4 d4 p4) : DataW.TrodAll enc P w base spare held [t0, t1, t2, t3, t4] [v0, v1, v2, v3, v4] [d0, d1, d2, d3, d4] (p0 ++ (p1 ++ (p2 ++ (p3 ++ p4)))) := ⟨p0, (p1 ++ (p2 ++ (p3 ++ p4))), h0, trodAll_mk4 h1 h2 h3 h4, rfl⟩
end
section
variable {H : Type} {enc : TypeId × Value → H} {P : Program} {w : World} {base : Nat} {spare : Nat → Bool} {held : Bool}
theorem trodAll_n6 {t0 t1 t2 t3 t4 t5 : TypeId} {args : Array Value} {ds : List (DataW H)} {ps : List MemPlace} (h : DataW.TrodAll enc P w base spare held [t0, t1, t2, t3, t4, t5] args.toList ds ps) :
    ∃ v0 v1 v2 v3 v4 v5 d0 d1 d2 d3 d4 d5 p0 p1 p2 p3 p4 p5, args = #[v0, v1, v2, v3, v4, v5] ∧ ds = [d0, d1, d2, d3, d4, d5] ∧ ps = (p0 ++ (p1 ++ (p2 ++ (p3 ++ (p4 ++ p5))))) ∧ DataW.Trod enc P w base spare held t0 v0 d0 p0 ∧ DataW.Trod enc P w base spare held t1 v1 d1 p1 ∧ DataW.Trod enc P w base spare held t2 v2 d2 p2 ∧ DataW.Trod enc P w base spare held t3 v3 d3 p3 ∧ DataW.Trod enc P w base spare held t4 v4 d4 p4 ∧ DataW.Trod enc P w base spare held t5 v5 d5 p5 := by
  obtain ⟨v0, vs0, d0, ds0, p0, q0, hargs, rfl, rfl, hd0, hr0⟩ := trodAll_cons h
  obtain ⟨v1, vs1, d1, ds1, p1, q1, rfl, rfl, rfl, hd1, hr1⟩ := trodAll_cons hr0
  obtain ⟨v2, vs2, d2, ds2, p2, q2, rfl, rfl, rfl, hd2, hr2⟩ := trodAll_cons hr1
  obtain ⟨v3, vs3, d3, ds3, p3, q3, rfl, rfl, rfl, hd3, hr3⟩ := trodAll_cons hr2
  obtain ⟨v4, vs4, d4, ds4, p4, q4, rfl, rfl, rfl, hd4, hr4⟩ := trodAll_cons hr3
  obtain ⟨v5, vs5, d5, ds5, p5, q5, rfl, rfl, rfl, hd5, hr5⟩ := trodAll_cons hr4
  obtain ⟨rfl, rfl, rfl⟩ := trodAll_nil hr5
  exact ⟨v0, v1, v2, v3, v4, v5, d0, d1, d2, d3, d4, d5, p0, p1, p2, p3, p4, p5, by cases args; simp_all, rfl, by simp, hd0, hd1, hd2, hd3, hd4, hd5⟩
theorem trodAll_m6 {t0 t1 t2 t3 t4 t5 : TypeId} {v0 v1 v2 v3 v4 v5 : Value} {d0 d1 d2 d3 d4 d5 : DataW H} {p0 p1 p2 p3 p4 p5 : List MemPlace} (h0 : DataW.Trod enc P w base spare held t0 v0 d0 p0) (h1 : DataW.Trod enc P w base spare held t1 v1 d1 p1) (h2 : DataW.Trod enc P w base spare held t2 v2 d2 p2) (h3 : DataW.Trod enc P w base spare held t3 v3 d3 p3) (h4 : DataW.Trod enc P w base spare held t4 v4 d4 p4) (h5 : DataW.Trod enc P w base spare held t5 v5 d5 p5) : DataW.TrodAll enc P w base spare held [t0, t1, t2, t3, t4, t5] [v0, v1, v2, v3, v4, v5] [d0, d1, d2, d3, d4, d5] (p0 ++ (p1 ++ (p2 ++ (p3 ++ (p4 ++ p5))))) := ⟨p0, (p1 ++ (p2 ++ (p3 ++ (p4 ++ p5)))), h0, trodAll_m5 h1 h2 h3 h4 h5, rfl⟩
end
section
variable {H : Type} {enc : TypeId × Value → H} {P : Program} {w : World} {base : Nat} {spare : Nat → Bool} {held : Bool}
theorem trodAll_n7 {t0 t1 t2 t3 t4 t5 t6 : TypeId} {args : Array Value} {ds : List (DataW H)} {ps : List MemPlace} (h : DataW.TrodAll enc P w base spare held [t0, t1, t2, t3, t4, t5, t6] args.toList ds ps) :
    ∃ v0 v1 v2 v3 v4 v5 v6 d0 d1 d2 d3 d4 d5 d6 p0 p1 p2 p3 p4 p5 p6, args = #[v0, v1, v2, v3, v4, v5, v6] ∧ ds = [d0, d1, d2, d3, d4, d5, d6] ∧ ps = (p0 ++ (p1 ++ (p2 ++ (p3 ++ (p4 ++ (p5 ++ p6)))))) ∧ DataW.Trod enc P w base spare held t0 v0 d0 p0 ∧ DataW.Trod enc P w base spare held t1 v1 d1 p1 ∧ DataW.Trod enc P w base spare held t2 v2 d2 p2 ∧ DataW.Trod enc P w base spare held t3 v3 d3 p3 ∧ DataW.Trod enc P w base spare held t4 v4 d4 p4 ∧ DataW.Trod enc P w base spare held t5 v5 d5 p5 ∧ DataW.Trod enc P w base spare held t6 v6 d6 p6 := by
  obtain ⟨v0, vs0, d0, ds0, p0, q0, hargs, rfl, rfl, hd0, hr0⟩ := trodAll_cons h
  obtain ⟨v1, vs1, d1, ds1, p1, q1, rfl, rfl, rfl, hd1, hr1⟩ := trodAll_cons hr0
  obtain ⟨v2, vs2, d2, ds2, p2, q2, rfl, rfl, rfl, hd2, hr2⟩ := trodAll_cons hr1
  obtain ⟨v3, vs3, d3, ds3, p3, q3, rfl, rfl, rfl, hd3, hr3⟩ := trodAll_cons hr2
  obtain ⟨v4, vs4, d4, ds4, p4, q4, rfl, rfl, rfl, hd4, hr4⟩ := trodAll_cons hr3
  obtain ⟨v5, vs5, d5, ds5, p5, q5, rfl, rfl, rfl, hd5, hr5⟩ := trodAll_cons hr4
  obtain ⟨v6, vs6, d6, ds6, p6, q6, rfl, rfl, rfl, hd6, hr6⟩ := trodAll_cons hr5
  obtain ⟨rfl, rfl, rfl⟩ := trodAll_nil hr6
  exact ⟨v0, v1, v2, v3, v4, v5, v6, d0, d1, d2, d3, d4, d5, d6, p0, p1, p2, p3, p4, p5, p6, by cases args; simp_all, rfl, by simp, hd0, hd1, hd2, hd3, hd4, hd5, hd6⟩
theorem trodAll_m7 {t0 t1 t2 t3 t4 t5 t6 : TypeId} {v0 v1 v2 v3 v4 v5 v6 : Value} {d0 d1 d2 d3 d4 d5 d6 : DataW H} {p0 p1 p2 p3 p4 p5 p6 : List MemPlace} (h0 : DataW.Trod enc P w base spare held t0 v0 d0 p0) (h1 : DataW.Trod enc P w base spare held t1 v1 d1 p1) (h2 : DataW.Trod enc P w base spare held t2 v2 d2 p2) (h3 : DataW.Trod enc P w base spare held t3 v3 d3 p3) (h4 : DataW.Trod enc P w base spare held t4 v4 d4 p4) (h5 : DataW.Trod enc P w base spare held t5 v5 d5 p5) (h6 : DataW.Trod enc P w base spare held t6 v6 d6 p6) : DataW.TrodAll enc P w base spare held [t0, t1, t2, t3, t4, t5, t6] [v0, v1, v2, v3, v4, v5, v6] [d0, d1, d2, d3, d4, d5, d6] (p0 ++ (p1 ++ (p2 ++ (p3 ++ (p4 ++ (p5 ++ p6)))))) := ⟨p0, (p1 ++ (p2 ++ (p3 ++ (p4 ++ (p5 ++ p6))))), h0, trodAll_m6 h1 h2 h3 h4 h5 h6, rfl⟩
end
/-- The door's own heap meets the condition: closed facts. -/
theorem door_met (os : Os) (args : Array Value) : laidMetH Tryd.prog laidF ((World.doorLaid Tryd.prog 400 os).forCall (fun _ _ => 0) ⟨#[], args, []⟩).memory :=
  laidMetH_of_parts3 (fuel := 8) (laidMet_of_run' 8 (by kernel_rfl) (by kernel_rfl)) (by kernel_rfl) (by kernel_rfl)
set_option maxHeartbeats 1000000 in
set_option maxRecDepth 100000 in
theorem lifted (os : Os) (started : os.Started) (H : Type) (enc : TypeId × Value → H) :
    ReturnsInHanded {} Tryd.checked os 4 .any (fun w args => (Rows.permuteChecksSpec.pre enc Tryd.prog Tryd.f4 [] false w args ∧ laidMetH Tryd.prog laidF w) ∧ sizedMet enc Tryd.prog Tryd.f4 (OpenSpec.ofChange Rows.permuteChecksSpec) false w args)
      (Rows.permuteChecksSpec.post enc Tryd.prog Tryd.f4 false true false false) := by
  refine returnsInHanded_of_change_and (C := Tryd.checked) (X := fun w _ => laidMetH Tryd.prog laidF w) (fun _ _ _ hh h => h.of_heap hh) Tryd.own started (by kernel_rfl) Tryd.func4
    (ChangeSpec.witness_shaped (enc := enc) (C := Tryd.checked) (os := os) (X := fun w _ => laidMetH Tryd.prog laidF w) false (World.doorLaid Tryd.prog 400 os) #[.int .i64 0, .agg #[.int .u64 0, .int .u64 0, .int .u64 0, .int .u64 0, .int .u64 0, .int .u64 0, .int .u64 0, .int .u64 0, .int .u64 0, .int .u64 0, .int .u64 0, .int .u64 0, .int .u64 0, .int .u64 0, .int .u64 0, .int .u64 0], .slice none 0 0, .slice none 0 0, .slice none 0 0, .agg #[.int .u64 0, .int .u64 0, .int .u64 0, .int .u64 0], .agg #[.int .u64 0, .int .u64 0, .int .u64 0, .int .u64 0]] 8 rfl (World.shaped_of_RefB (by kernel_rfl) (by kernel_rfl)) (by kernel_rfl) (by kernel_rfl) (by kernel_rfl) (door_met os _)) ?_
  intro W base args ds gs before hval0 hW _ _ hL _
  have hval : ∀ (j : Nat) t v, Tryd.f4.params[j]? = some t → args[j]? = some v → Value.okWide Tryd.prog W .any base t v := hval0
  have hW' := hW
  obtain ⟨p, q, hA0, hV, rfl, _, _⟩ := hW
  have hA : DataW.TrodAll enc Tryd.prog W 0 (fun _ => true) true Tryd.f4.params.toList args.toList ds p := hA0
  rw [Tryd.params4] at hA hval
  obtain ⟨v0, v1, v2, v3, v4, v5, v6, d0, d1, d2, d3, d4, d5, d6, p0, p1, p2, p3, p4, p5, p6, rfl, rfl, rfl, h0, h1, h2, h3, h4, h5, h6⟩ := trodAll_n7 hA
  obtain ⟨rfl, rfl⟩ := trodVars_none hV
  obtain ⟨x0, rfl, rfl, rfl, hx0⟩ := open_int Tryd.underlying3 (hval 0 3 v0 rfl rfl) h0
  have h1k := h1
  obtain ⟨s1, a1_0, a1_1, a1_2, a1_3, rfl, hV1, ha1_0, ha1_1, ha1_2, ha1_3⟩ := openX (hval 1 27 v1 rfl rfl) h1
  have h2k := h2
  obtain ⟨n2, f2, hE2, hf2⟩ := openL (hval 2 32 v2 rfl rfl) h2
  have h3k := h3
  obtain ⟨n3, f3, hE3, hf3⟩ := openL (hval 3 32 v3 rfl rfl) h3
  have h4k := h4
  obtain ⟨m4, T4, hZ4, hT4⟩ := openU (hval 4 33 v4 rfl rfl) h4
  obtain ⟨x5, hx5, rfl, rfl, rfl⟩ := openE (hval 5 24 v5 rfl rfl) h5
  obtain ⟨x6, hx6, rfl, rfl, rfl⟩ := openE (hval 6 24 v6 rfl rfl) h6
  clear hA0 hval0
  simp only [List.append_nil, List.nil_append] at hW'
  refine (pck_any x0 s1 v2 v3 v4 n2 n3 m4 x5 x6 a1_0 a1_1 a1_2 a1_3 f2 f3 (fun i => (T4 i).1) (fun i => (T4 i).2.1) (fun i => (T4 i).2.2) hV1 ha1_0 ha1_1 ha1_2 ha1_3 hx5 hx6 hf2 hf3 hT4 W (globD_of_laid hL) hE2 hE3 hZ4).mono fun e W' ⟨he, hb⟩ => ?_
  subst he
  have r1 : (Rows.permuteChecksSpec.fn H ([.lit (.int .i64 x0), d1, d2, d3, d4, DataW.agg [.lit (.int .u64 ((limb 0 x5 : Nat) : Int)), .lit (.int .u64 ((limb 1 x5 : Nat) : Int)), .lit (.int .u64 ((limb 2 x5 : Nat) : Int)), .lit (.int .u64 ((limb 3 x5 : Nat) : Int))], DataW.agg [.lit (.int .u64 ((limb 0 x6 : Nat) : Int)), .lit (.int .u64 ((limb 1 x6 : Nat) : Int)), .lit (.int .u64 ((limb 2 x6 : Nat) : Int)), .lit (.int .u64 ((limb 3 x6 : Nat) : Int))]] ++ [])).results = [.lit (.bool true)] := by simp [Rows.permuteChecksSpec]
  have a1 : (Rows.permuteChecksSpec.fn H ([.lit (.int .i64 x0), d1, d2, d3, d4, DataW.agg [.lit (.int .u64 ((limb 0 x5 : Nat) : Int)), .lit (.int .u64 ((limb 1 x5 : Nat) : Int)), .lit (.int .u64 ((limb 2 x5 : Nat) : Int)), .lit (.int .u64 ((limb 3 x5 : Nat) : Int))], DataW.agg [.lit (.int .u64 ((limb 0 x6 : Nat) : Int)), .lit (.int .u64 ((limb 1 x6 : Nat) : Int)), .lit (.int .u64 ((limb 2 x6 : Nat) : Int)), .lit (.int .u64 ((limb 3 x6 : Nat) : Int))]] ++ [])).args = [.lit (.int .i64 x0), d1, d2, d3, d4, DataW.agg [.lit (.int .u64 ((limb 0 x5 : Nat) : Int)), .lit (.int .u64 ((limb 1 x5 : Nat) : Int)), .lit (.int .u64 ((limb 2 x5 : Nat) : Int)), .lit (.int .u64 ((limb 3 x5 : Nat) : Int))], DataW.agg [.lit (.int .u64 ((limb 0 x6 : Nat) : Int)), .lit (.int .u64 ((limb 1 x6 : Nat) : Int)), .lit (.int .u64 ((limb 2 x6 : Nat) : Int)), .lit (.int .u64 ((limb 3 x6 : Nat) : Int))]] := by simp [Rows.permuteChecksSpec]
  have v1 : (Rows.permuteChecksSpec.fn H ([.lit (.int .i64 x0), d1, d2, d3, d4, DataW.agg [.lit (.int .u64 ((limb 0 x5 : Nat) : Int)), .lit (.int .u64 ((limb 1 x5 : Nat) : Int)), .lit (.int .u64 ((limb 2 x5 : Nat) : Int)), .lit (.int .u64 ((limb 3 x5 : Nat) : Int))], DataW.agg [.lit (.int .u64 ((limb 0 x6 : Nat) : Int)), .lit (.int .u64 ((limb 1 x6 : Nat) : Int)), .lit (.int .u64 ((limb 2 x6 : Nat) : Int)), .lit (.int .u64 ((limb 3 x6 : Nat) : Int))]] ++ [])).vars = [] := by simp [Rows.permuteChecksSpec]
  refine ⟨_, rfl, _, _, _, [], ([] ++ (p1 ++ (p2 ++ (p3 ++ (p4 ++ ([] ++ [])))))), [], hW', ?_, ?_, ?_, hb.frame _, fun h => by cases h⟩
  · rw [r1]; exact trodAll_mk1 (shut_bool Tryd.underlying4 true)
  · rw [a1]; exact trodAll_m7 (shut_int Tryd.underlying3 hx0) (Below.trod Tryd.laidOut (by kernel_rfl) (of_decide_eq_true (by kernel_rfl)) h1k hb (fun x hx => by simpa using hW'.lt x (by simp [hx]))) (Below.trod Tryd.laidOut (by kernel_rfl) (of_decide_eq_true (by kernel_rfl)) h2k hb (fun x hx => by simpa using hW'.lt x (by simp [hx]))) (Below.trod Tryd.laidOut (by kernel_rfl) (of_decide_eq_true (by kernel_rfl)) h3k hb (fun x hx => by simpa using hW'.lt x (by simp [hx]))) (Below.trod Tryd.laidOut (by kernel_rfl) (of_decide_eq_true (by kernel_rfl)) h4k hb (fun x hx => by simpa using hW'.lt x (by simp [hx]))) (readE W' x5 _) (readE W' x6 _)
  · rw [v1]; rfl
theorem permuteChecks_holds : Rows.PermuteChecksSaid :=
  OpenClaim.holds_of_wide 4 Tryd.f4 rfl rfl rfl rfl rfl rfl rfl ⟨rfl, rfl, rfl, rfl, rfl⟩ rfl rfl rfl rfl rfl (by kernel_rfl) Tryd.func4 (by kernel_rfl)
    (of_decide_eq_true (by kernel_rfl)) (by unfold Func.isWrapper; first | (rw [if_pos (by decide +kernel)]; kernel_rfl) | (rw [if_neg (by decide +kernel)]; exact ⟨rfl, rfl⟩))
    (fun os started H enc _ => lifted os started H enc)
/-- The card: the row, its listed variables tied to the program's text. -/
theorem permuteChecks_card : Rows.PermuteChecksCardSaid :=
  Claim7.holds_tied_plain_at .later [] [.data, .data, .data] true (true, "bf11201d1cc83c65c7df0a1d98285c263207e5aab2d557d69c7fce00c62e3387") false
    permuteChecks_holds (fun _ h => by cases h) (by kernel_rfl) (fun _ h => by cases h) permuteChecks_row_tie rfl ⟨rfl, rfl⟩ (by kernel_rfl) rfl
    (fun f fn hf hfn => by
      obtain rfl : f = 4 := Option.some.inj ((show Tryd.prog.funcNamed "sigil/sigillaw16.PermuteChecks" = some 4 by kernel_rfl).symm.trans hf) |>.symm
      obtain rfl : fn = Tryd.f4 := (Option.some.inj (Tryd.func4.symm.trans hfn)).symm
      exact ⟨by kernel_rfl, fun j t ht => by
        rw [Tryd.params4] at ht
        have hm : t ∈ [3, 27, 32, 32, 33, 24, 24] := by simpa using Array.mem_of_getElem? ht
        have hall : ([3, 27, 32, 32, 33, 24, 24].all fun u => !Tryd.prog.wantsStandIn u) = true := by kernel_rfl
        exact (show Tryd.prog.wantsStandIn t = false by simpa using List.all_eq_true.1 hall t hm)⟩)
    (by kernel_rfl)
#print axioms permuteChecks_card
end Go.Proofs.YtmbfkflgpdkphaaDoor
