/- ExprValues: for every sort, list of nodes, list of queries and list of numbers the call returns true: Values answers what the document says, and leaves what is handed in as it was. Condition: the variable of package field reads as the text lays it when the call begins (the card ties it). -/
import Derived.Test.YtimjgebiffemnaaDoorXL
import Derived.Test.YtimjgebiffemnaaDoorCQ1
import Derived.Test.YtimjgebiffemnaaDoorBA
import Derived.ProofKit
import Derived.Laws.IdiomArrays
import Derived.SizedLaws
import Derived.Test.YtimjgebiffemnaaDoorRows
import Derived.Test.YtimjgebiffemnaaDoorFD
import Derived.Test.YtimjgebiffemnaaDoorCC
import Derived.LaidMore
import Derived.OpenShut
import Derived.Stop.Joined
import Derived.Test.YtimjgebiffemnaaDoorXRA
import Derived.Test.YtimjgebiffemnaaDoorTie
import Derived.Test.YtimjgebiffemnaaDoorCards
import Derived.SevenTiedAt
namespace Go.Proofs.YtimjgebiffemnaaDoor
open Go.ChangeShapes Go.WideShapes Go.ChangeAt Go.RowKit
open Go.WideMaps Go.WideElems

theorem xcellsU : Tryd.prog.cellsOf 42 = 1 := by kernel_rfl
theorem xcellsE : Tryd.prog.cellsOf 44 = 4 := by kernel_rfl
theorem xcellsI : Tryd.prog.cellsOf 3 = 1 := by kernel_rfl
theorem xcellsN : Tryd.prog.cellsOf 46 = 7 := by kernel_rfl
theorem xcellsQ : Tryd.prog.cellsOf 51 = 3 := by kernel_rfl
theorem xundN : Tryd.prog.underlying 46 = some (.struct (Tryd.prog.fieldsOf 46)) := by kernel_rfl
theorem xundQ : Tryd.prog.underlying 51 = some (.struct (Tryd.prog.fieldsOf 51)) := by kernel_rfl
theorem xbytesN : Tryd.prog.bytesOf 46 = 56 := by kernel_rfl
theorem xbytesQ : Tryd.prog.bytesOf 51 = 24 := by kernel_rfl
section
variable {H : Type} {enc : TypeId × Value → H} {W : World}
theorem x_field_get {base fuel : Nat} {sp : Nat → Bool} {held : Bool} {t : TypeId} {fs : Array Field} {cs : List Value} {x : DataW H × List MemPlace} (hfs : Tryd.prog.underlying t = some (.struct fs)) (L : List (TypeId × Nat)) (hL : fs.toList.map (fun f => (f.type, f.offset)) = L) (h : DataW.trod enc Tryd.prog W base sp held fuel t cs = some x) :
    ∃ (xs : List (DataW H × List MemPlace)) (m : Nat), x.1 = .agg (xs.map (·.1)) ∧ xs.length = L.length ∧ ∀ (i : Nat) (ty : TypeId) (off : Nat), L[i]? = some (ty, off) → DataW.trod enc Tryd.prog W base sp held m ty ((cs.drop off).take (Tryd.prog.cellsOf ty)) = xs[i]? := by
  obtain ⟨xs, m, _, hx, _, hxl, hf⟩ := DataW.trod_struct hfs h
  refine ⟨xs, m, by rw [hx], ?_, fun i ty off hi => ?_⟩
  · rw [hxl, ← hL]; simp
  · rw [← hL, List.getElem?_map] at hi
    obtain ⟨f, hf1, hf2⟩ := Option.map_eq_some_iff.mp hi
    simp only [Prod.mk.injEq] at hf2
    have h1 := hf i f (by simpa using hf1)
    rw [hf2.1, hf2.2] at h1
    exact h1
theorem x_readI {base fuel : Nat} {sp : Nat → Bool} {held : Bool} {c : Value} {x : DataW H × List MemPlace} (h : DataW.trod enc Tryd.prog W base sp held fuel 3 [c] = some x) : ∃ z : Int, c = .int .i64 z ∧ rng z := by
  obtain ⟨z, e, _, hw⟩ := DataW.trod_int Tryd.underlying3 h
  simp at e
  refine ⟨z, e, ?_⟩
  have h1 : IntKind.i64.min = -9223372036854775808 ∧ IntKind.i64.max = 9223372036854775807 := by decide
  simp only [Lit.wf, h1.1, h1.2, Bool.and_eq_true, decide_eq_true_eq] at hw
  exact hw
theorem x_add_plain (b o j : Nat) : (⟨b, o, none⟩ : Addr).add j = ⟨b, o + j, none⟩ := by unfold Addr.add; split <;> simp_all
set_option maxRecDepth 100000 in
theorem x_readE {base fuel : Nat} {sp : Nat → Bool} {held : Bool} {c0 c1 c2 c3 : Value} {x : DataW H × List MemPlace} (h : DataW.trod enc Tryd.prog W base sp held fuel 44 [c0, c1, c2, c3] = some x) :
    ∃ x : Nat, x < 115792089237316195423570985008687907853269984665640564039457584007913129639936 ∧ c0 = .int .u64 ((limb 0 x : Nat) : Int) ∧ c1 = .int .u64 ((limb 1 x : Nat) : Int) ∧ c2 = .int .u64 ((limb 2 x : Nat) : Int) ∧ c3 = .int .u64 ((limb 3 x : Nat) : Int) := by
  obtain ⟨y0, y1, y2, y3, k, _, hy0, hy1, hy2, hy3⟩ := trod_array4 Tryd.underlying44 xcellsU h
  obtain ⟨x0, e0, _, w0⟩ := DataW.trod_int Tryd.underlying42 hy0
  obtain ⟨x1, e1, _, w1⟩ := DataW.trod_int Tryd.underlying42 hy1
  obtain ⟨x2, e2, _, w2⟩ := DataW.trod_int Tryd.underlying42 hy2
  obtain ⟨x3, e3, _, w3⟩ := DataW.trod_int Tryd.underlying42 hy3
  simp at e0 e1 e2 e3
  subst e0 e1 e2 e3
  have b0 := bounds_u64' w0; have b1 := bounds_u64' w1; have b2 := bounds_u64' w2; have b3 := bounds_u64' w3
  obtain ⟨n0, rfl⟩ := Int.eq_ofNat_of_zero_le b0.1
  obtain ⟨n1, rfl⟩ := Int.eq_ofNat_of_zero_le b1.1
  obtain ⟨n2, rfl⟩ := Int.eq_ofNat_of_zero_le b2.1
  obtain ⟨n3, rfl⟩ := Int.eq_ofNat_of_zero_le b3.1
  have g := limbs_of n0 n1 n2 n3 (by omega) (by omega) (by omega) (by omega) _ rfl
  refine ⟨_, g.2.2.2.2, ?_, ?_, ?_, ?_⟩
  · rw [← g.1]
  · rw [← g.2.1]
  · rw [← g.2.2.1]
  · rw [← g.2.2.2.1]
theorem list7c {α : Type} (l : List α) (h : l.length = 7) : ∃ a b c d e f g, l = [a, b, c, d, e, f, g] := by
  match l, h with
  | [a, b, c, d, e, f, g], _ => exact ⟨a, b, c, d, e, f, g, rfl⟩
theorem x_some_of {α : Type} {l : List α} {i : Nat} {o : Option α} (h : o = l[i]?) (hi : i < l.length) : ∃ y, o = some y := ⟨l[i], by rw [h, List.getElem?_eq_getElem hi]⟩
set_option maxRecDepth 100000 in
theorem x_readN {base fuel : Nat} {sp : Nat → Bool} {held : Bool} {cs : List Value} {x : DataW H × List MemPlace} (hl : cs.length = 7) (h : DataW.trod enc Tryd.prog W base sp held fuel 46 cs = some x) : ∃ T : Int × Int × Int × Nat, (T.2.2.2 < 115792089237316195423570985008687907853269984665640564039457584007913129639936 ∧ rng T.1 ∧ rng T.2.1 ∧ rng T.2.2.1) ∧ ∀ j, j < 7 → cs[j]? = some (nC T j) := by
  obtain ⟨c0, c1, c2, c3, c4, c5, c6, rfl⟩ := list7c cs hl
  obtain ⟨xs, m, _, hxl, hg⟩ := x_field_get xundN [(3, 0), (3, 1), (3, 2), (44, 3)] (by kernel_rfl) h
  have g0 := hg 0 _ _ rfl; have g1 := hg 1 _ _ rfl; have g2 := hg 2 _ _ rfl; have g3 := hg 3 _ _ rfl
  rw [xcellsI] at g0 g1 g2
  rw [xcellsE] at g3
  have hx4 : xs.length = 4 := hxl
  obtain ⟨y0, k0⟩ := x_some_of g0 (by omega); obtain ⟨y1, k1⟩ := x_some_of g1 (by omega); obtain ⟨y2, k2⟩ := x_some_of g2 (by omega); obtain ⟨y3, k3⟩ := x_some_of g3 (by omega)
  obtain ⟨O, rfl, rO⟩ := x_readI k0
  obtain ⟨A, rfl, rA⟩ := x_readI k1
  obtain ⟨B, rfl, rB⟩ := x_readI k2
  obtain ⟨V, rV, rfl, rfl, rfl, rfl⟩ := x_readE k3
  refine ⟨(O, A, B, V), ⟨rV, rO, rA, rB⟩, fun j hj => ?_⟩
  have hj' : j = 0 ∨ j = 1 ∨ j = 2 ∨ j = 3 ∨ j = 4 ∨ j = 5 ∨ j = 6 := by omega
  rcases hj' with rfl | rfl | rfl | rfl | rfl | rfl | rfl <;> rfl
theorem readQ {base fuel : Nat} {sp : Nat → Bool} {held : Bool} {cs : List Value} {x : DataW H × List MemPlace} (hl : cs.length = 3) (h : DataW.trod enc Tryd.prog W base sp held fuel 51 cs = some x) : ∃ q : Int × Int × Int, rngQ q ∧ ∀ j, j < 3 → cs[j]? = some (qC q j) := by
  obtain ⟨c0, c1, c2, rfl⟩ := list3s cs hl
  obtain ⟨xs, m, _, hxl, hg⟩ := x_field_get xundQ [(3, 0), (3, 1), (3, 2)] (by kernel_rfl) h
  have g0 := hg 0 _ _ rfl; have g1 := hg 1 _ _ rfl; have g2 := hg 2 _ _ rfl
  rw [xcellsI] at g0 g1 g2
  have hx3 : xs.length = 3 := hxl
  obtain ⟨y0, k0⟩ := x_some_of g0 (by omega); obtain ⟨y1, k1⟩ := x_some_of g1 (by omega); obtain ⟨y2, k2⟩ := x_some_of g2 (by omega)
  obtain ⟨O, rfl, rO⟩ := x_readI k0
  obtain ⟨A, rfl, rA⟩ := x_readI k1
  obtain ⟨B, rfl, rB⟩ := x_readI k2
  refine ⟨(O, A, B), ⟨rO, rA, rB⟩, fun j hj => ?_⟩
  have hj' : j = 0 ∨ j = 1 ∨ j = 2 := by omega
  rcases hj' with rfl | rfl | rfl <;> rfl
/-- A slice that is read: its elements' cells. -/
theorem x_open_rows {base fuel s : Nat} {t e : TypeId} {v : Value} {x : DataW H × List MemPlace} (ht : Tryd.prog.underlying t = some (.slice e)) (hce : Tryd.prog.cellsOf e = s) (h : DataW.trod enc Tryd.prog W base (fun _ => true) true fuel t [v] = some x) :
    (v = .slice none 0 0 ∧ x.1 = .nil) ∨ ∃ (a : Addr) (len cap : Nat) (es rs : List (DataW H)) (m : Nat), v = .slice (some a) len cap ∧ x.1 = .slice es rs ∧ len ≤ cap ∧ cap ≤ maxLen ∧ es.length = len ∧
      ∀ i, i < len → ∃ (cs : List Value) (y : DataW H × List MemPlace), cs.length = s ∧ (∀ j, j < s → W.cell? ((a.add (i * s)).add j) = cs[j]?) ∧ DataW.trod enc Tryd.prog W base (fun _ => true) true m e cs = some y ∧ es[i]? = some y.1 := by
  rcases DataW.trod_slice ht h with ⟨hcs, hx⟩ | ⟨a, len, cap, elems, rest, m, _, hcs, hx, _, hl, hm, hlen, hel, _, _⟩
  · simp at hcs
    exact Or.inl ⟨hcs, by rw [hx]⟩
  · simp at hcs
    refine Or.inr ⟨a, len, cap, elems.map (·.1), rest.map (·.1), m, hcs, by rw [hx], hl, hm, by simpa using hlen, fun i hi => ?_⟩
    have he := hel i hi
    rw [hce, List.getElem?_eq_getElem (by omega)] at he
    obtain ⟨cs, hcs, ht⟩ := Option.bind_eq_some_iff.1 he
    obtain ⟨_, hcl, hcc⟩ := World.cells?_some hcs
    exact ⟨cs, _, hcl, hcc, ht, by rw [List.getElem?_map, List.getElem?_eq_getElem (by omega)]; rfl⟩
set_option maxRecDepth 100000 in
/-- A slice's place, where the slice stands in a value that is handed in. -/
theorem x_slice_spot {base : Nat} {t e : TypeId} {a : Addr} {len cap : Nat} (ht : Tryd.prog.underlying t = some (.slice e)) (hv : Cell.okWide Tryd.prog W .any base t (.slice (some a) len cap)) : a.spot = none ∧ a.block < W.heap.size := by
  have h1 := hv
  simp only [Cell.okWide, Cell.ok, ht] at h1
  obtain ⟨_, _, _, hsp, row, cells, hs, _⟩ := h1
  refine ⟨hsp, ?_⟩
  rcases Nat.lt_or_ge a.block W.heap.size with h | h
  · exact h
  · simp [World.shape?, Array.getElem?_eq_none h] at hs
theorem x_pick {α : Type} {P : Nat → α → Prop} {len : Nat} (d : α) (h : ∀ i, i < len → ∃ a, P i a) : ∃ F : Nat → α, ∀ i, i < len → P i (F i) :=
  ⟨fun i => if h' : i < len then (h i h').choose else d, fun i hi => by
    dsimp only
    rw [dif_pos hi]
    exact (h i hi).choose_spec⟩
theorem x_mkRs {a : Addr} {len cap s : Nat} {F : Nat → Nat → Value} (hl : len ≤ cap) (hm : cap ≤ maxLen) (hsp : a.spot = none ∧ a.block < W.heap.size) (hc : ∀ i, i < len → ∀ j, j < s → W.cell? ((a.add (i * s)).add j) = some (F i j)) : Rs W (.slice (some a) len cap) s len F := by
  obtain ⟨b, o, sp⟩ := a
  have hsp' : sp = none := hsp.1
  subst hsp'
  refine Or.inr ⟨b, o, cap, rfl, hl, hm, hsp.2, fun i hi j hj => ?_⟩
  have h := hc i hi j hj
  rw [x_add_plain, x_add_plain] at h
  exact h
set_option maxRecDepth 100000 in
theorem openNt {base : Nat} {v : Value} {d : DataW H} {p : List MemPlace} (hv : Value.okWide Tryd.prog W .any base 22 v) (h : DataW.Trod enc Tryd.prog W 0 (fun _ => true) true 22 v d p)
    (hz : ∀ el sp, d = .slice el sp → (el.length + sp.length) * Tryd.prog.bytesOf 46 ≤ reachBytes) :
    ∃ (o : Option Addr) (n c : Nat) (T : Nat → Int × Int × Int × Nat), v = .slice o n c ∧ Rs W (.slice o n c) 7 n (fun i => nC (T i)) ∧ (∀ i, i < n → (T i).2.2.2 < 115792089237316195423570985008687907853269984665640564039457584007913129639936 ∧ rng (T i).1 ∧ rng (T i).2.1 ∧ rng (T i).2.2.1) ∧ n ≤ 2513169434916 := by
  obtain ⟨a0, len0, cap0, rfl⟩ := okWide_slice Tryd.underlying22 hv
  obtain ⟨fuel, hf⟩ := h
  have hf' : DataW.trod enc Tryd.prog W 0 (fun _ => true) true fuel 22 [.slice a0 len0 cap0] = some (d, p) := hf
  rcases x_open_rows Tryd.underlying22 xcellsN hf' with ⟨e, _⟩ | ⟨a, len, cap, es, rs, m, e, hx, hl, hm, hes, hel⟩
  · cases e
    exact ⟨none, 0, 0, fun _ => (0, 0, 0, 0), rfl, Or.inl ⟨rfl, rfl⟩, fun i hi => by omega, by decide⟩
  · cases e
    have hb := hz es rs hx
    rw [xbytesN, hes] at hb
    have hsp : a.spot = none ∧ a.block < W.heap.size := by
      have h1 : Value.okWide Tryd.prog W .any base 22 (.slice (some a) len0 cap0) := hv
      simp only [Value.okWide, Cell.okWide, Cell.ok, Tryd.underlying22] at h1
      obtain ⟨_, _, _, hsp, row, cells, hs, _⟩ := h1
      refine ⟨hsp, ?_⟩
      rcases Nat.lt_or_ge a.block W.heap.size with h | h
      · exact h
      · simp [World.shape?, Array.getElem?_eq_none h] at hs
    obtain ⟨T, hT⟩ := x_pick (P := fun i (T : Int × Int × Int × Nat) => (T.2.2.2 < 115792089237316195423570985008687907853269984665640564039457584007913129639936 ∧ rng T.1 ∧ rng T.2.1 ∧ rng T.2.2.1) ∧ ∀ j, j < 7 → W.cell? ((a.add (i * 7)).add j) = some (nC T j)) (0, 0, 0, 0) (fun i hi => by
      obtain ⟨cs, y, hcl, hcc, ht, _⟩ := hel i hi
      obtain ⟨T, hP, hT⟩ := x_readN hcl ht
      exact ⟨T, hP, fun j hj => (hcc j hj).trans (hT j hj)⟩)
    exact ⟨some a, len0, cap0, T, rfl, x_mkRs hl hm hsp (fun i hi => (hT i hi).2), fun i hi => (hT i hi).1, by unfold reachBytes at hb; omega⟩
set_option maxRecDepth 100000 in
theorem openQt {base : Nat} {v : Value} {d : DataW H} {p : List MemPlace} (hv : Value.okWide Tryd.prog W .any base 31 v) (h : DataW.Trod enc Tryd.prog W 0 (fun _ => true) true 31 v d p)
    (hz : ∀ el sp, d = .slice el sp → (el.length + sp.length) * Tryd.prog.bytesOf 51 ≤ reachBytes) :
    ∃ (o : Option Addr) (n c : Nat) (T : Nat → Int × Int × Int), v = .slice o n c ∧ Rs W (.slice o n c) 3 n (fun i => qC (T i)) ∧ (∀ i, i < n → rngQ (T i)) ∧ n ≤ 5864062014805 := by
  obtain ⟨a0, len0, cap0, rfl⟩ := okWide_slice Tryd.underlying31 hv
  obtain ⟨fuel, hf⟩ := h
  have hf' : DataW.trod enc Tryd.prog W 0 (fun _ => true) true fuel 31 [.slice a0 len0 cap0] = some (d, p) := hf
  rcases x_open_rows Tryd.underlying31 xcellsQ hf' with ⟨e, _⟩ | ⟨a, len, cap, es, rs, m, e, hx, hl, hm, hes, hel⟩
  · cases e
    exact ⟨none, 0, 0, fun _ => (0, 0, 0), rfl, Or.inl ⟨rfl, rfl⟩, fun i hi => by omega, by decide⟩
  · cases e
    have hb := hz es rs hx
    rw [xbytesQ, hes] at hb
    have hsp : a.spot = none ∧ a.block < W.heap.size := by
      have h1 : Value.okWide Tryd.prog W .any base 31 (.slice (some a) len0 cap0) := hv
      simp only [Value.okWide, Cell.okWide, Cell.ok, Tryd.underlying31] at h1
      obtain ⟨_, _, _, hsp, row, cells, hs, _⟩ := h1
      refine ⟨hsp, ?_⟩
      rcases Nat.lt_or_ge a.block W.heap.size with h | h
      · exact h
      · simp [World.shape?, Array.getElem?_eq_none h] at hs
    obtain ⟨T, hT⟩ := x_pick (P := fun i (T : Int × Int × Int) => (rngQ T) ∧ ∀ j, j < 3 → W.cell? ((a.add (i * 3)).add j) = some (qC T j)) (0, 0, 0) (fun i hi => by
      obtain ⟨cs, y, hcl, hcc, ht, _⟩ := hel i hi
      obtain ⟨T, hP, hT⟩ := readQ hcl ht
      exact ⟨T, hP, fun j hj => (hcc j hj).trans (hT j hj)⟩)
    exact ⟨some a, len0, cap0, T, rfl, x_mkRs hl hm hsp (fun i hi => (hT i hi).2), fun i hi => (hT i hi).1, by unfold reachBytes at hb; omega⟩
end

end Go.Proofs.YtimjgebiffemnaaDoor

/- The package's variables: what the condition on them gives the walks. -/
namespace Go.Proofs.YtimjgebiffemnaaDoor
open Go.ChangeShapes Go.WideShapes Go.ChangeAt Go.WideMaps Go.WideElems Go.RowKit

theorem gPrimes : Tryd.prog.globalNamed "sigil/field.primes" = some 0 := by kernel_rfl
theorem tPrimes : (Tryd.prog.globals[0]?).map (·.type) = some 120 := by kernel_rfl
theorem cU : Tryd.prog.cellsOf 42 = 1 := by kernel_rfl
theorem cI : Tryd.prog.cellsOf 3 = 1 := by kernel_rfl
theorem cT : Tryd.prog.cellsOf 87 = 4 := by kernel_rfl
theorem cTP : Tryd.prog.cellsOf 119 = 5 := by kernel_rfl
theorem uT : Tryd.prog.underlying 87 = some (.struct (Tryd.prog.fieldsOf 87)) := by kernel_rfl
theorem uTP : Tryd.prog.underlying 119 = some (.struct (Tryd.prog.fieldsOf 119)) := by kernel_rfl
theorem fieldsP : ∃ n0 n1 : Field, (Tryd.prog.fieldsOf 119).toList = [n0, n1] ∧ n0.type = 87 ∧ n1.type = 3 ∧ n0.offset = 0 ∧ n1.offset = 4 := by
  have h : (Tryd.prog.fieldsOf 119).toList.map (fun f => (f.type, f.offset)) = [(87, 0), (3, 4)] := by kernel_rfl
  have hlen : (Tryd.prog.fieldsOf 119).toList.length = 2 := by
    have := congrArg List.length h
    simpa using this
  match hl : (Tryd.prog.fieldsOf 119).toList, hlen with
  | [n0, n1], _ =>
    rw [hl] at h
    simp only [List.map_cons, List.map_nil, List.cons.injEq, Prod.mk.injEq, and_true] at h
    exact ⟨n0, n1, rfl, h.1.1, h.2.1, h.1.2, h.2.2⟩

section
variable {H : Type} {enc : TypeId × Value → H} {W : World} {base : Nat} {sp : Nat → Bool} {held : Bool} {fuel : Nat} {cs : List Value} {x : DataW H × List MemPlace}
theorem oneWord {a : Int} {y : DataW H × List MemPlace} (h : DataW.trod enc Tryd.prog W base sp held fuel 42 cs = some y) (hy : y.1 = .lit (.int .u64 a)) : cs = [.int .u64 a] := by
  obtain ⟨n, e, rfl, _⟩ := DataW.trod_int Tryd.underlying42 h
  simp only [DataW.lit.injEq, Lit.int.injEq, true_and] at hy
  rw [e, hy]
theorem oneInt {a : Int} {y : DataW H × List MemPlace} (h : DataW.trod enc Tryd.prog W base sp held fuel 3 cs = some y) (hy : y.1 = .lit (.int .i64 a)) : cs = [.int .i64 a] := by
  obtain ⟨n, e, rfl, _⟩ := DataW.trod_int Tryd.underlying3 h
  simp only [DataW.lit.injEq, Lit.int.injEq, true_and] at hy
  rw [e, hy]
theorem openNum {a0 a1 a2 a3 : Int} (h : DataW.trod enc Tryd.prog W base sp held fuel 87 cs = some x) (hx : x.1 = .agg [.lit (.int .u64 a0), .lit (.int .u64 a1), .lit (.int .u64 a2), .lit (.int .u64 a3)]) :
    cs = [.int .u64 a0, .int .u64 a1, .int .u64 a2, .int .u64 a3] := by
  obtain ⟨n0, n1, n2, n3, hl, _, _, _, _, t0, t1, t2, t3, o0, o1, o2, o3⟩ := fieldsF
  obtain ⟨xs, m, rfl, rfl, hlen, _, hf⟩ := DataW.trod_struct uT h
  rw [cT] at hlen
  obtain ⟨c0, c1, c2, c3, rfl⟩ := list4s cs hlen
  have hget : ∀ i (f : Field), (Tryd.prog.fieldsOf 87).toList[i]? = some f → DataW.trod enc Tryd.prog W base sp held m f.type (([c0, c1, c2, c3].drop f.offset).take (Tryd.prog.cellsOf f.type)) = xs[i]? := fun i f hi => hf i f (by simpa using hi)
  rw [hl] at hget
  have g0 := hget 0 n0 rfl; have g1 := hget 1 n1 rfl; have g2 := hget 2 n2 rfl; have g3 := hget 3 n3 rfl
  rw [t0, o0, cU] at g0
  rw [t1, o1, cU] at g1
  rw [t2, o2, cU] at g2
  rw [t3, o3, cU] at g3
  simp only [DataW.agg.injEq] at hx
  have hxl : xs.length = 4 := by have := congrArg List.length hx; simpa using this
  obtain ⟨y0, y1, y2, y3, rfl⟩ := list4s xs hxl
  simp only [List.map_cons, List.map_nil, List.cons.injEq, and_true] at hx
  have e0 := oneWord g0 hx.1; have e1 := oneWord g1 hx.2.1; have e2 := oneWord g2 hx.2.2.1; have e3 := oneWord g3 hx.2.2.2
  simp at e0 e1 e2 e3
  rw [e0, e1, e2, e3]
theorem list5s {α : Type} (l : List α) (h : l.length = 5) : ∃ a b c d e, l = [a, b, c, d, e] := by
  match l, h with
  | [a, b, c, d, e], _ => exact ⟨a, b, c, d, e, rfl⟩
theorem list2s {α : Type} (l : List α) (h : l.length = 2) : ∃ a b, l = [a, b] := by
  match l, h with
  | [a, b], _ => exact ⟨a, b, rfl⟩
theorem openPrime {a0 a1 a2 a3 k : Int} (h : DataW.trod enc Tryd.prog W base sp held fuel 119 cs = some x) (hx : x.1 = .agg [.agg [.lit (.int .u64 a0), .lit (.int .u64 a1), .lit (.int .u64 a2), .lit (.int .u64 a3)], .lit (.int .i64 k)]) :
    cs = [.int .u64 a0, .int .u64 a1, .int .u64 a2, .int .u64 a3, .int .i64 k] := by
  obtain ⟨n0, n1, hl, t0, t1, o0, o1⟩ := fieldsP
  obtain ⟨xs, m, rfl, rfl, hlen, _, hf⟩ := DataW.trod_struct uTP h
  rw [cTP] at hlen
  obtain ⟨c0, c1, c2, c3, c4, rfl⟩ := list5s cs hlen
  have hget : ∀ i (f : Field), (Tryd.prog.fieldsOf 119).toList[i]? = some f → DataW.trod enc Tryd.prog W base sp held m f.type (([c0, c1, c2, c3, c4].drop f.offset).take (Tryd.prog.cellsOf f.type)) = xs[i]? := fun i f hi => hf i f (by simpa using hi)
  rw [hl] at hget
  have g0 := hget 0 n0 rfl; have g1 := hget 1 n1 rfl
  rw [t0, o0, cT] at g0
  rw [t1, o1, cI] at g1
  simp only [DataW.agg.injEq] at hx
  have hxl : xs.length = 2 := by have := congrArg List.length hx; simpa using this
  obtain ⟨y0, y1, rfl⟩ := list2s xs hxl
  simp only [List.map_cons, List.map_nil, List.cons.injEq, and_true] at hx
  have e0 := openNum g0 hx.1; have e1 := oneInt g1 hx.2
  simp at e0 e1
  rw [e0.1, e0.2.1, e0.2.2.1, e0.2.2.2, e1]
end

theorem getDT (l : List Value) (a j : Nat) (hj : j < 5) {r : List Value} (h : (l.drop a).take 5 = r) : l[a + j]? = r[j]? := by
  rw [← h]; simp [List.getElem?_drop, hj]

def laidF : List (String × DataW Unit) := [("sigil/field.primes", Rows.laid_sigil_field_primes)]

theorem limb_lits : limb 0 (modN 0) = 16513537 ∧ limb 1 (modN 0) = 0 ∧ limb 2 (modN 0) = 0 ∧ limb 3 (modN 0) = 0 ∧ limb 0 (modN 1) = 16521217 ∧ limb 1 (modN 1) = 0 ∧ limb 2 (modN 1) = 0 ∧ limb 3 (modN 1) = 0 ∧ limb 0 (modN 2) = 11037532056220336129 ∧ limb 1 (modN 2) = 2469829653914515739 ∧ limb 2 (modN 2) = 0 ∧ limb 3 (modN 2) = 4611686018427387904 ∧ limb 0 (modN 3) = 10108024940646105089 ∧ limb 1 (modN 3) = 2469829653919213789 ∧ limb 2 (modN 3) = 0 ∧ limb 3 (modN 3) = 4611686018427387904 := by decide

set_option maxRecDepth 100000 in
/-- What the condition on the variables gives. -/
theorem glob_of_laid {W : World} (h : laidMetH Tryd.prog laidF W) : Glob W := by
  rw [MakeChecks.laidMetH_plain _ _ _ (by kernel_rfl)] at h
  obtain ⟨ps, ⟨g0, t0, cs0, f0, p0, q0, hg0, ht0, hv0, hd0, _, _⟩, _, _⟩ := h
  obtain rfl := Option.some.inj (gPrimes.symm.trans hg0)
  obtain rfl := Option.some.inj (tPrimes.symm.trans ht0)
  obtain ⟨xs, m, rfl, hx, hlen, hxl, hel⟩ := DataW.trod_array Tryd.underlying120 hd0
  obtain ⟨x0, x1, x2, x3, rfl⟩ := list4s xs hxl
  have hx1 := congrArg Prod.fst hx
  simp only [Rows.laid_sigil_field_primes, DataW.agg.injEq, List.map_cons, List.map_nil, List.cons.injEq, and_true] at hx1
  obtain ⟨y0, y1, y2, y3⟩ := hx1
  have e0 := openPrime (hel 0 (by decide)) y0.symm
  have e1 := openPrime (hel 1 (by decide)) y1.symm
  have e2 := openPrime (hel 2 (by decide)) y2.symm
  have e3 := openPrime (hel 3 (by decide)) y3.symm
  rw [cTP] at e0 e1 e2 e3
  have cell0 : ∀ k, W.cell? ⟨0, k, none⟩ = cs0.toList[k]? := fun k => by rw [World.var?_cell hg0 hv0 k]; simp
  have d0 : ∀ j, j < 5 → W.cell? ⟨0, 5 * 0 + j, none⟩ = _ := fun j hj => (cell0 _).trans (getDT cs0.toList (0 * 5) j hj e0)
  have d1 : ∀ j, j < 5 → W.cell? ⟨0, 5 * 1 + j, none⟩ = _ := fun j hj => (cell0 _).trans (getDT cs0.toList (1 * 5) j hj e1)
  have d2 : ∀ j, j < 5 → W.cell? ⟨0, 5 * 2 + j, none⟩ = _ := fun j hj => (cell0 _).trans (getDT cs0.toList (2 * 5) j hj e2)
  have d3 : ∀ j, j < 5 → W.cell? ⟨0, 5 * 3 + j, none⟩ = _ := fun j hj => (cell0 _).trans (getDT cs0.toList (3 * 5) j hj e3)
  obtain ⟨l00, l01, l02, l03, l10, l11, l12, l13, l20, l21, l22, l23, l30, l31, l32, l33⟩ := limb_lits
  have hw : 0 < W.heap.size := World.block_lt_of_cell? W ⟨0, 5 * 0 + 0, none⟩ (d0 0 (by decide))
  refine ⟨by omega, ?_, ?_⟩
  · intro s hs
    have h4 : s = 0 ∨ s = 1 ∨ s = 2 ∨ s = 3 := by omega
    rcases h4 with rfl | rfl | rfl | rfl
    · refine ⟨fun j hj => ?_, d0 4 (by decide)⟩
      have hj4 : j = 0 ∨ j = 1 ∨ j = 2 ∨ j = 3 := by omega
      rcases hj4 with rfl | rfl | rfl | rfl
      · rw [l00]; exact d0 0 (by decide)
      · rw [l01]; exact d0 1 (by decide)
      · rw [l02]; exact d0 2 (by decide)
      · rw [l03]; exact d0 3 (by decide)
    · refine ⟨fun j hj => ?_, d1 4 (by decide)⟩
      have hj4 : j = 0 ∨ j = 1 ∨ j = 2 ∨ j = 3 := by omega
      rcases hj4 with rfl | rfl | rfl | rfl
      · rw [l10]; exact d1 0 (by decide)
      · rw [l11]; exact d1 1 (by decide)
      · rw [l12]; exact d1 2 (by decide)
      · rw [l13]; exact d1 3 (by decide)
    · refine ⟨fun j hj => ?_, d2 4 (by decide)⟩
      have hj4 : j = 0 ∨ j = 1 ∨ j = 2 ∨ j = 3 := by omega
      rcases hj4 with rfl | rfl | rfl | rfl
      · rw [l20]; exact d2 0 (by decide)
      · rw [l21]; exact d2 1 (by decide)
      · rw [l22]; exact d2 2 (by decide)
      · rw [l23]; exact d2 3 (by decide)
    · refine ⟨fun j hj => ?_, d3 4 (by decide)⟩
      have hj4 : j = 0 ∨ j = 1 ∨ j = 2 ∨ j = 3 := by omega
      rcases hj4 with rfl | rfl | rfl | rfl
      · rw [l30]; exact d3 0 (by decide)
      · rw [l31]; exact d3 1 (by decide)
      · rw [l32]; exact d3 2 (by decide)
      · rw [l33]; exact d3 3 (by decide)
  · trivial

end Go.Proofs.YtimjgebiffemnaaDoor

namespace Go.Proofs.YtimjgebiffemnaaDoor
open Go.ChangeShapes Go.WideShapes Go.ChangeAt Go.RowKit
open Go.WideMaps Go.WideElems
open Go.ChangeMaps (setBlock shut_map_nil open_string shut_string keptBut_setBlock frozen?_setBlock heap_setBlock_same)

theorem Tryd.own : ownKnob Tryd.prog.godebug = none := by kernel_rfl
theorem Tryd.cellsU : Tryd.prog.cellsOf 42 = 1 := by kernel_rfl
theorem Tryd.cellsE : Tryd.prog.cellsOf 44 = 4 := by kernel_rfl
theorem list4 {α : Type} (l : List α) (h : (⟨l⟩ : Array α).size = 4) : ∃ a b c d, l = [a, b, c, d] := by
  match l, h with
  | [a, b, c, d], _ => exact ⟨a, b, c, d, rfl⟩
set_option maxRecDepth 100000 in
/-- An array of four words that is read is the words of a number below 2^256. -/
theorem openE {H : Type} {enc : TypeId × Value → H} {W : World} {base : Nat} {v : Value} {d : DataW H} {p : List MemPlace} (hv : Value.okWide Tryd.prog W .any base 44 v) (h : DataW.Trod enc Tryd.prog W 0 (fun _ => true) true 44 v d p) :
    ∃ x : Nat, x < 115792089237316195423570985008687907853269984665640564039457584007913129639936 ∧ v = .agg #[.int .u64 ((limb 0 (x) : Nat) : Int), .int .u64 ((limb 1 (x) : Nat) : Int), .int .u64 ((limb 2 (x) : Nat) : Int), .int .u64 ((limb 3 (x) : Nat) : Int)] ∧ p = [] ∧ d = .agg [.lit (.int .u64 ((limb 0 x : Nat) : Int)), .lit (.int .u64 ((limb 1 x : Nat) : Int)), .lit (.int .u64 ((limb 2 x : Nat) : Int)), .lit (.int .u64 ((limb 3 x : Nat) : Int))] := by
  obtain ⟨cs, rfl, hsz, _⟩ : ∃ cs, v = .agg cs ∧ cs.size = Tryd.prog.cellsOf 44 ∧ Row.okWide Tryd.prog W .any base 44 cs := by
    simpa [Value.okWide, Tryd.underlying44] using hv
  rw [Tryd.cellsE] at hsz
  obtain ⟨l⟩ := cs
  obtain ⟨c0, c1, c2, c3, rfl⟩ := list4 l hsz
  obtain ⟨fuel, hf⟩ := h
  obtain ⟨y0, y1, y2, y3, m, hx, hy0, hy1, hy2, hy3⟩ := trod_array4 Tryd.underlying44 Tryd.cellsU hf
  obtain ⟨x0, e0, rfl, w0⟩ := DataW.trod_int Tryd.underlying42 hy0
  obtain ⟨x1, e1, rfl, w1⟩ := DataW.trod_int Tryd.underlying42 hy1
  obtain ⟨x2, e2, rfl, w2⟩ := DataW.trod_int Tryd.underlying42 hy2
  obtain ⟨x3, e3, rfl, w3⟩ := DataW.trod_int Tryd.underlying42 hy3
  simp at e0 e1 e2 e3
  subst e0 e1 e2 e3
  simp only [Prod.mk.injEq] at hx
  obtain ⟨rfl, rfl⟩ := hx
  have b0 := bounds_u64' w0; have b1 := bounds_u64' w1; have b2 := bounds_u64' w2; have b3 := bounds_u64' w3
  obtain ⟨n0, rfl⟩ := Int.eq_ofNat_of_zero_le b0.1
  obtain ⟨n1, rfl⟩ := Int.eq_ofNat_of_zero_le b1.1
  obtain ⟨n2, rfl⟩ := Int.eq_ofNat_of_zero_le b2.1
  obtain ⟨n3, rfl⟩ := Int.eq_ofNat_of_zero_le b3.1
  have g := limbs_of n0 n1 n2 n3 (by omega) (by omega) (by omega) (by omega) _ rfl
  refine ⟨_, g.2.2.2.2, ?_, rfl, ?_⟩
  · rw [← g.1, ← g.2.1, ← g.2.2.1, ← g.2.2.2.1]
  · rw [← g.1, ← g.2.1, ← g.2.2.1, ← g.2.2.2.1]
set_option maxRecDepth 100000 in
theorem readE {H : Type} {enc : TypeId × Value → H} (W : World) (x : Nat) (sp : Nat → Bool) : DataW.Trod enc Tryd.prog W 0 sp true 44 (.agg #[.int .u64 ((limb 0 (x) : Nat) : Int), .int .u64 ((limb 1 (x) : Nat) : Int), .int .u64 ((limb 2 (x) : Nat) : Int), .int .u64 ((limb 3 (x) : Nat) : Int)]) (DataW.agg [.lit (.int .u64 ((limb 0 x : Nat) : Int)), .lit (.int .u64 ((limb 1 x : Nat) : Int)), .lit (.int .u64 ((limb 2 x : Nat) : Int)), .lit (.int .u64 ((limb 3 x : Nat) : Int))]) [] := by
  have hw : ∀ i, (Lit.int .u64 ((limb i x : Nat) : Int)).wf = true := fun i => wf_limb (limb i x) (limb_lt i x)
  exact ⟨2, by simp [DataW.trod, Value.cells, Tryd.underlying44, Tryd.underlying42, Tryd.cellsE, Tryd.cellsU, hw, show List.range 4 = [0, 1, 2, 3] from rfl]⟩
theorem Tryd.laidOut : laidOutB Tryd.prog = true := by kernel_rfl
set_option maxRecDepth 100000 in
/-- A slice of elements that is read. -/
theorem openL {H : Type} {enc : TypeId × Value → H} {W : World} {base : Nat} {v : Value} {d : DataW H} {p : List MemPlace} (hv : Value.okWide Tryd.prog W .any base 36 v) (h : DataW.Trod enc Tryd.prog W 0 (fun _ => true) true 36 v d p) :
    ∃ (n : Nat) (f : Nat → Nat), Es W v n f ∧ ∀ i, i < n → f i < 115792089237316195423570985008687907853269984665640564039457584007913129639936 := by
  obtain ⟨a0, len, cap, rfl⟩ := okWide_slice Tryd.underlying36 hv
  obtain ⟨fuel, hf⟩ := h
  rcases DataW.trod_slice Tryd.underlying36 hf with ⟨hcs, hx⟩ | ⟨a, len', cap', elems, rest, m, _, hcs, hx, _, hl, hm, hlen, hel, _, _⟩
  · simp [Value.cells] at hcs
    obtain ⟨rfl, rfl, rfl⟩ := hcs
    exact ⟨0, fun _ => 0, Or.inl ⟨rfl, rfl⟩, fun i hi => by omega⟩
  · simp [Value.cells] at hcs
    obtain ⟨rfl, rfl, rfl⟩ := hcs
    have hb : a.block < W.heap.size ∧ a.spot = none := by
      have h1 : Value.okWide Tryd.prog W .any base 36 (.slice (some a) len cap) := hv
      simp only [Value.okWide, Cell.okWide, Cell.ok, Tryd.underlying36] at h1
      obtain ⟨_, _, _, hsp, row, cells, hs, _⟩ := h1
      refine ⟨?_, hsp⟩
      rcases Nat.lt_or_ge a.block W.heap.size with h | h
      · exact h
      · simp [World.shape?, Array.getElem?_eq_none h] at hs
    obtain ⟨hbl, hsp⟩ := hb
    obtain ⟨b, o, sp⟩ := a
    dsimp only at hsp hbl
    subst hsp
    have each : ∀ i, i < len → ∃ x : Nat, x < 115792089237316195423570985008687907853269984665640564039457584007913129639936 ∧ ∀ j, j < 4 → W.cell? ⟨b, o + i * 4 + j, none⟩ = some (.int .u64 ((limb j x : Nat) : Int)) := by
      intro i hi
      have he := hel i hi
      rw [Tryd.cellsE, List.getElem?_eq_getElem (by omega)] at he
      obtain ⟨cs, hcs, ht⟩ := Option.bind_eq_some_iff.1 he
      obtain ⟨_, hcl, hcc⟩ := World.cells?_some hcs
      obtain ⟨c0, c1, c2, c3, rfl⟩ := list4 cs (by simpa using hcl)
      obtain ⟨y0, y1, y2, y3, k, _, hy0, hy1, hy2, hy3⟩ := trod_array4 Tryd.underlying44 Tryd.cellsU ht
      obtain ⟨x0, e0, _, w0⟩ := DataW.trod_int Tryd.underlying42 hy0
      obtain ⟨x1, e1, _, w1⟩ := DataW.trod_int Tryd.underlying42 hy1
      obtain ⟨x2, e2, _, w2⟩ := DataW.trod_int Tryd.underlying42 hy2
      obtain ⟨x3, e3, _, w3⟩ := DataW.trod_int Tryd.underlying42 hy3
      simp at e0 e1 e2 e3
      subst e0 e1 e2 e3
      have b0 := bounds_u64' w0; have b1 := bounds_u64' w1; have b2 := bounds_u64' w2; have b3 := bounds_u64' w3
      obtain ⟨n0, rfl⟩ := Int.eq_ofNat_of_zero_le b0.1
      obtain ⟨n1, rfl⟩ := Int.eq_ofNat_of_zero_le b1.1
      obtain ⟨n2, rfl⟩ := Int.eq_ofNat_of_zero_le b2.1
      obtain ⟨n3, rfl⟩ := Int.eq_ofNat_of_zero_le b3.1
      have g := limbs_of n0 n1 n2 n3 (by omega) (by omega) (by omega) (by omega) _ rfl
      refine ⟨_, g.2.2.2.2, fun j hj => ?_⟩
      have hc := hcc j hj
      have hadd : ((⟨b, o, none⟩ : Addr).add (i * 4)).add j = ⟨b, o + i * 4 + j, none⟩ := by rw [add_plain, add_plain]
      rw [hadd] at hc
      rw [hc]
      have hj4 : j = 0 ∨ j = 1 ∨ j = 2 ∨ j = 3 := by omega
      rcases hj4 with rfl | rfl | rfl | rfl
      · rw [← g.1]; rfl
      · rw [← g.2.1]; rfl
      · rw [← g.2.2.1]; rfl
      · rw [← g.2.2.2.1]; rfl
    refine ⟨len, fun i => if h : i < len then (each i h).choose else 0, Or.inr ⟨b, o, cap, rfl, hl, hm, hbl, fun i hi j hj => ?_⟩, fun i hi => ?_⟩
    · dsimp only
      rw [dif_pos hi]
      exact (each i hi).choose_spec.2 j hj
    · dsimp only
      rw [dif_pos hi]
      exact (each i hi).choose_spec.1
theorem Tryd.bytesEl : Tryd.prog.bytesOf 44 = 32 := by kernel_rfl
set_option maxRecDepth 100000 in
/-- A slice of elements that is read, with its size. -/
theorem openV {H : Type} {enc : TypeId × Value → H} {W : World} {base : Nat} {v : Value} {d : DataW H} {p : List MemPlace} (hv : Value.okWide Tryd.prog W .any base 36 v) (h : DataW.Trod enc Tryd.prog W 0 (fun _ => true) true 36 v d p)
    (hz : ∀ el sp, d = .slice el sp → (el.length + sp.length) * Tryd.prog.bytesOf 44 ≤ reachBytes) :
    ∃ (n : Nat) (f : Nat → Nat), Es W v n f ∧ (∀ i, i < n → f i < 115792089237316195423570985008687907853269984665640564039457584007913129639936) ∧ n ≤ 4398046510976 := by
  obtain ⟨n, f, hR, hT⟩ := openL hv h
  refine ⟨n, f, hR, hT, ?_⟩
  obtain ⟨fuel, hf⟩ := h
  rcases DataW.trod_slice Tryd.underlying36 hf with ⟨hcs, _⟩ | ⟨a, len', cap', elems, rest, m, _, hcs, hx, _, hl, hm, hlen, _⟩
  · rcases hR with ⟨_, h0⟩ | ⟨b, o, c, rfl, _⟩
    · omega
    · simp [Value.cells] at hcs
  · have hr := hz _ _ (congrArg Prod.fst hx)
    rw [Tryd.bytesEl] at hr
    simp only [List.length_map, reachBytes] at hr
    rcases hR with ⟨rfl, h0⟩ | ⟨b, o, c, rfl, _⟩
    · omega
    · simp [Value.cells] at hcs
      omega

/-- The door's own heap meets the condition: closed facts. -/
theorem door_met (os : Os) (args : Array Value) : laidMetH Tryd.prog laidF ((World.doorLaid Tryd.prog 400 os).forCall (fun _ _ => 0) ⟨#[], args, []⟩).memory :=
  laidMetH_of_parts3 (fuel := 8) (laidMet_of_run' 8 (by kernel_rfl) (by kernel_rfl)) (by kernel_rfl) (by kernel_rfl)

set_option maxHeartbeats 1000000 in
set_option maxRecDepth 100000 in
theorem lifted (os : Os) (started : os.Started) (H : Type) (enc : TypeId × Value → H) :
    ReturnsInHanded {} Tryd.checked os 4 .any (fun w args => (Rows.exprValuesSpec.pre enc Tryd.prog Tryd.f4 [] false w args ∧ laidMetH Tryd.prog laidF w) ∧ sizedMet enc Tryd.prog Tryd.f4 (OpenSpec.ofChange Rows.exprValuesSpec) false w args)
      (Rows.exprValuesSpec.post enc Tryd.prog Tryd.f4 false true false false) := by
  refine returnsInHanded_of_change_and (C := Tryd.checked) (X := fun w _ => laidMetH Tryd.prog laidF w) (fun _ _ _ hh h => h.of_heap hh) Tryd.own started (by kernel_rfl) Tryd.func4
    (ChangeSpec.witness_shaped (enc := enc) (C := Tryd.checked) (os := os) (X := fun w _ => laidMetH Tryd.prog laidF w) false (World.doorLaid Tryd.prog 400 os) #[.int .i64 0, .slice none 0 0, .slice none 0 0, .slice none 0 0] 8 rfl (World.shaped_of_RefB (by kernel_rfl) (by kernel_rfl)) (by kernel_rfl) (by kernel_rfl) (by kernel_rfl) (door_met os _)) ?_
  intro W base args ds gs before hval0 hW _ hsz0 hL _
  have hval : ∀ (j : Nat) t v, Tryd.f4.params[j]? = some t → args[j]? = some v → Value.okWide Tryd.prog W .any base t v := hval0
  have hW' := hW
  obtain ⟨p, q, hA0, hV, rfl, _, _⟩ := hW
  have hA : DataW.TrodAll enc Tryd.prog W 0 (fun _ => true) true Tryd.f4.params.toList args.toList ds p := hA0
  rw [Tryd.params4] at hA hval
  have hsz : (DataW.weightsEach Tryd.prog (Tryd.f4.params.toList ++ Rows.exprValuesSpec.plain.varTypes Tryd.prog) (ds ++ gs)).all (· ≤ reachBytes) = true := hsz0
  clear hsz0
  rw [Tryd.params4] at hsz
  obtain ⟨v0, v1, v2, v3, d0, d1, d2, d3, p0, p1, p2, p3, rfl, rfl, rfl, h0, h1, h2, h3⟩ := trodAll_four hA
  obtain ⟨rfl, rfl⟩ := trodVars_none hV
  obtain ⟨x0, rfl, rfl, rfl, hx0⟩ := open_int Tryd.underlying3 (hval 0 3 v0 rfl rfl) h0
  have h1k := h1
  obtain ⟨o1, n1, c1, T1, rfl, hR1, hT1, hn1⟩ := openNt (hval 1 22 v1 rfl rfl) h1 (fun el sp hd => by subst hd; exact sized_slice hsz (j := 1) rfl rfl Tryd.underlying22)
  have h2k := h2
  obtain ⟨o2, n2, c2, T2, rfl, hR2, hT2, hn2⟩ := openQt (hval 2 31 v2 rfl rfl) h2 (fun el sp hd => by subst hd; exact sized_slice hsz (j := 2) rfl rfl Tryd.underlying31)
  have h3k := h3
  obtain ⟨n3, f3, hE3, hf3, hn3⟩ := openV (hval 3 36 v3 rfl rfl) h3 (fun el sp hd => by subst hd; exact sized_slice hsz (j := 3) rfl rfl Tryd.underlying36)
  clear hA0 hval0
  simp only [List.append_nil] at hW'
  refine (evalues_card x0 n1 c1 o1 T1 n2 c2 o2 T2 n3 v3 f3 hn3 hT1 hT2 hf3 W (glob_of_laid hL) hR1 hR2 hE3).mono fun e W' ⟨he, hb⟩ => ?_
  subst he
  have r1 : (Rows.exprValuesSpec.fn H ([.lit (.int .i64 x0), d1, d2, d3] ++ [])).results = [.lit (.bool true)] := by simp [Rows.exprValuesSpec]
  have a1 : (Rows.exprValuesSpec.fn H ([.lit (.int .i64 x0), d1, d2, d3] ++ [])).args = [.lit (.int .i64 x0), d1, d2, d3] := by simp [Rows.exprValuesSpec]
  have v1 : (Rows.exprValuesSpec.fn H ([.lit (.int .i64 x0), d1, d2, d3] ++ [])).vars = [] := by simp [Rows.exprValuesSpec]
  refine ⟨_, rfl, _, _, _, [], ([] ++ (p1 ++ (p2 ++ p3))), [], hW', ?_, ?_, ?_, hb.frame _, fun h => by cases h⟩
  · rw [r1]; exact trodAll_mk1 (shut_bool Tryd.underlying4 true)
  · rw [a1]; exact trodAll_mk4 (shut_int Tryd.underlying3 hx0) (Below.trod laidOutT (by kernel_rfl) (of_decide_eq_true (by kernel_rfl)) h1k hb (fun x hx => by simpa using hW'.lt x (by simp [hx]))) (Below.trod laidOutT (by kernel_rfl) (of_decide_eq_true (by kernel_rfl)) h2k hb (fun x hx => by simpa using hW'.lt x (by simp [hx]))) (Below.trod Tryd.laidOut (by kernel_rfl) (of_decide_eq_true (by kernel_rfl)) h3k hb (fun x hx => by simpa using hW'.lt x (by simp [hx])))
  · rw [v1]; rfl

theorem exprValues_holds : Rows.ExprValuesSaid :=
  OpenClaim.holds_of_wide 4 Tryd.f4 rfl rfl rfl rfl rfl rfl rfl ⟨rfl, rfl, rfl, rfl, rfl⟩ rfl rfl rfl rfl rfl (by kernel_rfl) Tryd.func4 (by kernel_rfl)
    (of_decide_eq_true (by kernel_rfl)) (by unfold Func.isWrapper; first | (rw [if_pos (by decide +kernel)]; kernel_rfl) | (rw [if_neg (by decide +kernel)]; exact ⟨rfl, rfl⟩))
    (fun os started H enc _ => lifted os started H enc)

/-- The card: the row, its listed variables tied to the program's text. -/
theorem exprValues_card : Rows.ExprValuesCardSaid :=
  Claim7.holds_tied_plain_at .later [] [.data] true (true, "b5cd371974f986a2637e760674ec024890668f31a997469a5c1e76fef4bdcd59") true
    exprValues_holds (fun _ h => by cases h) (by kernel_rfl) (fun _ h => by cases h) exprValues_row_tie rfl ⟨rfl, rfl⟩ (by kernel_rfl) rfl
    (fun f fn hf hfn => by
      obtain rfl : f = 4 := Option.some.inj ((show Tryd.prog.funcNamed "sigil/sigillaw11.ExprValues" = some 4 by kernel_rfl).symm.trans hf) |>.symm
      obtain rfl : fn = Tryd.f4 := (Option.some.inj (Tryd.func4.symm.trans hfn)).symm
      exact ⟨by kernel_rfl, fun j t ht => by
        rw [Tryd.params4] at ht
        have hm : t ∈ [3, 22, 31, 36] := by simpa using Array.mem_of_getElem? ht
        have hall : ([3, 22, 31, 36].all fun u => !Tryd.prog.wantsStandIn u) = true := by kernel_rfl
        exact (show Tryd.prog.wantsStandIn t = false by simpa using List.all_eq_true.1 hall t hm)⟩)
    (by kernel_rfl)

#print axioms exprValues_card
end Go.Proofs.YtimjgebiffemnaaDoor

