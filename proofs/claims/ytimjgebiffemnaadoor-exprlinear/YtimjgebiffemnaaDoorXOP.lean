/- Lists of nodes and of queries that are handed in are read, with their sizes. No walk. -/
import Derived.Test.YtimjgebiffemnaaDoorXL
import Derived.Test.YtimjgebiffemnaaDoorCQ1
import Derived.Test.YtimjgebiffemnaaDoorBA
import Derived.ProofKit
import Derived.Laws.IdiomArrays
import Derived.SizedLaws
namespace Go.Proofs.YtimjgebiffemnaaDoor
open Go.ChangeShapes Go.WideShapes Go.ChangeAt Go.RowKit
open Go.WideMaps Go.WideElems

theorem xcellsU : Tryd.prog.cellsOf 42 = 1 := by kernel_rfl
theorem xcellsE : Tryd.prog.cellsOf 44 = 4 := by kernel_rfl
theorem xcellsI : Tryd.prog.cellsOf 3 = 1 := by kernel_rfl
theorem xcellsN : Tryd.prog.cellsOf 46 = 7 := by kernel_rfl
theorem xcellsQ : Tryd.prog.cellsOf 51 = 3 := by kernel_rfl
theorem xundN : Tryd.prog.underlying 46 = some (.struct (Tryd.prog.fieldsOf 46)) := by kernel_rfl
theorem xundQ : Tryd.prog.underlying 51 = some (.struct (Tryd.prog.fieldsOf 51)) := by kernel_rfl
theorem xbytesN : Tryd.prog.bytesOf 46 = 56 := by kernel_rfl
theorem xbytesQ : Tryd.prog.bytesOf 51 = 24 := by kernel_rfl
section
variable {H : Type} {enc : TypeId × Value → H} {W : World}
theorem x_field_get {base fuel : Nat} {sp : Nat → Bool} {held : Bool} {t : TypeId} {fs : Array Field} {cs : List Value} {x : DataW H × List MemPlace} (hfs : Tryd.prog.underlying t = some (.struct fs)) (L : List (TypeId × Nat)) (hL : fs.toList.map (fun f => (f.type, f.offset)) = L) (h : DataW.trod enc Tryd.prog W base sp held fuel t cs = some x) :
    ∃ (xs : List (DataW H × List MemPlace)) (m : Nat), x.1 = .agg (xs.map (·.1)) ∧ xs.length = L.length ∧ ∀ (i : Nat) (ty : TypeId) (off : Nat), L[i]? = some (ty, off) → DataW.trod enc Tryd.prog W base sp held m ty ((cs.drop off).take (Tryd.prog.cellsOf ty)) = xs[i]? := by
  obtain ⟨xs, m, _, hx, _, hxl, hf⟩ := DataW.trod_struct hfs h
  refine ⟨xs, m, by rw [hx], ?_, fun i ty off hi => ?_⟩
  · rw [hxl, ← hL]; simp
  · rw [← hL, List.getElem?_map] at hi
    obtain ⟨f, hf1, hf2⟩ := Option.map_eq_some_iff.mp hi
    simp only [Prod.mk.injEq] at hf2
    have h1 := hf i f (by simpa using hf1)
    rw [hf2.1, hf2.2] at h1
    exact h1
theorem x_readI {base fuel : Nat} {sp : Nat → Bool} {held : Bool} {c : Value} {x : DataW H × List MemPlace} (h : DataW.trod enc Tryd.prog W base sp held fuel 3 [c] = some x) : ∃ z : Int, c = .int .i64 z ∧ rng z := by
  obtain ⟨z, e, _, hw⟩ := DataW.trod_int Tryd.underlying3 h
  simp at e
  refine ⟨z, e, ?_⟩
  have h1 : IntKind.i64.min = -9223372036854775808 ∧ IntKind.i64.max = 9223372036854775807 := by decide
  simp only [Lit.wf, h1.1, h1.2, Bool.and_eq_true, decide_eq_true_eq] at hw
  exact hw
theorem x_add_plain (b o j : Nat) : (⟨b, o, none⟩ : Addr).add j = ⟨b, o + j, none⟩ := by unfold Addr.add; split <;> simp_all
set_option maxRecDepth 100000 in
theorem x_readE {base fuel : Nat} {sp : Nat → Bool} {held : Bool} {c0 c1 c2 c3 : Value} {x : DataW H × List MemPlace} (h : DataW.trod enc Tryd.prog W base sp held fuel 44 [c0, c1, c2, c3] = some x) :
    ∃ x : Nat, x < 115792089237316195423570985008687907853269984665640564039457584007913129639936 ∧ c0 = .int .u64 ((limb 0 x : Nat) : Int) ∧ c1 = .int .u64 ((limb 1 x : Nat) : Int) ∧ c2 = .int .u64 ((limb 2 x : Nat) : Int) ∧ c3 = .int .u64 ((limb 3 x : Nat) : Int) := by
  obtain ⟨y0, y1, y2, y3, k, _, hy0, hy1, hy2, hy3⟩ := trod_array4 Tryd.underlying44 xcellsU h
  obtain ⟨x0, e0, _, w0⟩ := DataW.trod_int Tryd.underlying42 hy0
  obtain ⟨x1, e1, _, w1⟩ := DataW.trod_int Tryd.underlying42 hy1
  obtain ⟨x2, e2, _, w2⟩ := DataW.trod_int Tryd.underlying42 hy2
  obtain ⟨x3, e3, _, w3⟩ := DataW.trod_int Tryd.underlying42 hy3
  simp at e0 e1 e2 e3
  subst e0 e1 e2 e3
  have b0 := bounds_u64' w0; have b1 := bounds_u64' w1; have b2 := bounds_u64' w2; have b3 := bounds_u64' w3
  obtain ⟨n0, rfl⟩ := Int.eq_ofNat_of_zero_le b0.1
  obtain ⟨n1, rfl⟩ := Int.eq_ofNat_of_zero_le b1.1
  obtain ⟨n2, rfl⟩ := Int.eq_ofNat_of_zero_le b2.1
  obtain ⟨n3, rfl⟩ := Int.eq_ofNat_of_zero_le b3.1
  have g := limbs_of n0 n1 n2 n3 (by omega) (by omega) (by omega) (by omega) _ rfl
  refine ⟨_, g.2.2.2.2, ?_, ?_, ?_, ?_⟩
  · rw [← g.1]
  · rw [← g.2.1]
  · rw [← g.2.2.1]
  · rw [← g.2.2.2.1]
theorem list7c {α : Type} (l : List α) (h : l.length = 7) : ∃ a b c d e f g, l = [a, b, c, d, e, f, g] := by
  match l, h with
  | [a, b, c, d, e, f, g], _ => exact ⟨a, b, c, d, e, f, g, rfl⟩
theorem x_some_of {α : Type} {l : List α} {i : Nat} {o : Option α} (h : o = l[i]?) (hi : i < l.length) : ∃ y, o = some y := ⟨l[i], by rw [h, List.getElem?_eq_getElem hi]⟩
set_option maxRecDepth 100000 in
theorem x_readN {base fuel : Nat} {sp : Nat → Bool} {held : Bool} {cs : List Value} {x : DataW H × List MemPlace} (hl : cs.length = 7) (h : DataW.trod enc Tryd.prog W base sp held fuel 46 cs = some x) : ∃ T : Int × Int × Int × Nat, (T.2.2.2 < 115792089237316195423570985008687907853269984665640564039457584007913129639936 ∧ rng T.1 ∧ rng T.2.1 ∧ rng T.2.2.1) ∧ ∀ j, j < 7 → cs[j]? = some (nC T j) := by
  obtain ⟨c0, c1, c2, c3, c4, c5, c6, rfl⟩ := list7c cs hl
  obtain ⟨xs, m, _, hxl, hg⟩ := x_field_get xundN [(3, 0), (3, 1), (3, 2), (44, 3)] (by kernel_rfl) h
  have g0 := hg 0 _ _ rfl; have g1 := hg 1 _ _ rfl; have g2 := hg 2 _ _ rfl; have g3 := hg 3 _ _ rfl
  rw [xcellsI] at g0 g1 g2
  rw [xcellsE] at g3
  have hx4 : xs.length = 4 := hxl
  obtain ⟨y0, k0⟩ := x_some_of g0 (by omega); obtain ⟨y1, k1⟩ := x_some_of g1 (by omega); obtain ⟨y2, k2⟩ := x_some_of g2 (by omega); obtain ⟨y3, k3⟩ := x_some_of g3 (by omega)
  obtain ⟨O, rfl, rO⟩ := x_readI k0
  obtain ⟨A, rfl, rA⟩ := x_readI k1
  obtain ⟨B, rfl, rB⟩ := x_readI k2
  obtain ⟨V, rV, rfl, rfl, rfl, rfl⟩ := x_readE k3
  refine ⟨(O, A, B, V), ⟨rV, rO, rA, rB⟩, fun j hj => ?_⟩
  have hj' : j = 0 ∨ j = 1 ∨ j = 2 ∨ j = 3 ∨ j = 4 ∨ j = 5 ∨ j = 6 := by omega
  rcases hj' with rfl | rfl | rfl | rfl | rfl | rfl | rfl <;> rfl
theorem readQ {base fuel : Nat} {sp : Nat → Bool} {held : Bool} {cs : List Value} {x : DataW H × List MemPlace} (hl : cs.length = 3) (h : DataW.trod enc Tryd.prog W base sp held fuel 51 cs = some x) : ∃ q : Int × Int × Int, rngQ q ∧ ∀ j, j < 3 → cs[j]? = some (qC q j) := by
  obtain ⟨c0, c1, c2, rfl⟩ := list3s cs hl
  obtain ⟨xs, m, _, hxl, hg⟩ := x_field_get xundQ [(3, 0), (3, 1), (3, 2)] (by kernel_rfl) h
  have g0 := hg 0 _ _ rfl; have g1 := hg 1 _ _ rfl; have g2 := hg 2 _ _ rfl
  rw [xcellsI] at g0 g1 g2
  have hx3 : xs.length = 3 := hxl
  obtain ⟨y0, k0⟩ := x_some_of g0 (by omega); obtain ⟨y1, k1⟩ := x_some_of g1 (by omega); obtain ⟨y2, k2⟩ := x_some_of g2 (by omega)
  obtain ⟨O, rfl, rO⟩ := x_readI k0
  obtain ⟨A, rfl, rA⟩ := x_readI k1
  obtain ⟨B, rfl, rB⟩ := x_readI k2
  refine ⟨(O, A, B), ⟨rO, rA, rB⟩, fun j hj => ?_⟩
  have hj' : j = 0 ∨ j = 1 ∨ j = 2 := by omega
  rcases hj' with rfl | rfl | rfl <;> rfl
/-- A slice that is read: its elements' cells. -/
theorem x_open_rows {base fuel s : Nat} {t e : TypeId} {v : Value} {x : DataW H × List MemPlace} (ht : Tryd.prog.underlying t = some (.slice e)) (hce : Tryd.prog.cellsOf e = s) (h : DataW.trod enc Tryd.prog W base (fun _ => true) true fuel t [v] = some x) :
    (v = .slice none 0 0 ∧ x.1 = .nil) ∨ ∃ (a : Addr) (len cap : Nat) (es rs : List (DataW H)) (m : Nat), v = .slice (some a) len cap ∧ x.1 = .slice es rs ∧ len ≤ cap ∧ cap ≤ maxLen ∧ es.length = len ∧
      ∀ i, i < len → ∃ (cs : List Value) (y : DataW H × List MemPlace), cs.length = s ∧ (∀ j, j < s → W.cell? ((a.add (i * s)).add j) = cs[j]?) ∧ DataW.trod enc Tryd.prog W base (fun _ => true) true m e cs = some y ∧ es[i]? = some y.1 := by
  rcases DataW.trod_slice ht h with ⟨hcs, hx⟩ | ⟨a, len, cap, elems, rest, m, _, hcs, hx, _, hl, hm, hlen, hel, _, _⟩
  · simp at hcs
    exact Or.inl ⟨hcs, by rw [hx]⟩
  · simp at hcs
    refine Or.inr ⟨a, len, cap, elems.map (·.1), rest.map (·.1), m, hcs, by rw [hx], hl, hm, by simpa using hlen, fun i hi => ?_⟩
    have he := hel i hi
    rw [hce, List.getElem?_eq_getElem (by omega)] at he
    obtain ⟨cs, hcs, ht⟩ := Option.bind_eq_some_iff.1 he
    obtain ⟨_, hcl, hcc⟩ := World.cells?_some hcs
    exact ⟨cs, _, hcl, hcc, ht, by rw [List.getElem?_map, List.getElem?_eq_getElem (by omega)]; rfl⟩
set_option maxRecDepth 100000 in
/-- A slice's place, where the slice stands in a value that is handed in. -/
theorem x_slice_spot {base : Nat} {t e : TypeId} {a : Addr} {len cap : Nat} (ht : Tryd.prog.underlying t = some (.slice e)) (hv : Cell.okWide Tryd.prog W .any base t (.slice (some a) len cap)) : a.spot = none ∧ a.block < W.heap.size := by
  have h1 := hv
  simp only [Cell.okWide, Cell.ok, ht] at h1
  obtain ⟨_, _, _, hsp, row, cells, hs, _⟩ := h1
  refine ⟨hsp, ?_⟩
  rcases Nat.lt_or_ge a.block W.heap.size with h | h
  · exact h
  · simp [World.shape?, Array.getElem?_eq_none h] at hs
theorem x_pick {α : Type} {P : Nat → α → Prop} {len : Nat} (d : α) (h : ∀ i, i < len → ∃ a, P i a) : ∃ F : Nat → α, ∀ i, i < len → P i (F i) :=
  ⟨fun i => if h' : i < len then (h i h').choose else d, fun i hi => by
    dsimp only
    rw [dif_pos hi]
    exact (h i hi).choose_spec⟩
theorem x_mkRs {a : Addr} {len cap s : Nat} {F : Nat → Nat → Value} (hl : len ≤ cap) (hm : cap ≤ maxLen) (hsp : a.spot = none ∧ a.block < W.heap.size) (hc : ∀ i, i < len → ∀ j, j < s → W.cell? ((a.add (i * s)).add j) = some (F i j)) : Rs W (.slice (some a) len cap) s len F := by
  obtain ⟨b, o, sp⟩ := a
  have hsp' : sp = none := hsp.1
  subst hsp'
  refine Or.inr ⟨b, o, cap, rfl, hl, hm, hsp.2, fun i hi j hj => ?_⟩
  have h := hc i hi j hj
  rw [x_add_plain, x_add_plain] at h
  exact h
set_option maxRecDepth 100000 in
theorem openNt {base : Nat} {v : Value} {d : DataW H} {p : List MemPlace} (hv : Value.okWide Tryd.prog W .any base 22 v) (h : DataW.Trod enc Tryd.prog W 0 (fun _ => true) true 22 v d p)
    (hz : ∀ el sp, d = .slice el sp → (el.length + sp.length) * Tryd.prog.bytesOf 46 ≤ reachBytes) :
    ∃ (o : Option Addr) (n c : Nat) (T : Nat → Int × Int × Int × Nat), v = .slice o n c ∧ Rs W (.slice o n c) 7 n (fun i => nC (T i)) ∧ (∀ i, i < n → (T i).2.2.2 < 115792089237316195423570985008687907853269984665640564039457584007913129639936 ∧ rng (T i).1 ∧ rng (T i).2.1 ∧ rng (T i).2.2.1) ∧ n ≤ 2513169434916 := by
  obtain ⟨a0, len0, cap0, rfl⟩ := okWide_slice Tryd.underlying22 hv
  obtain ⟨fuel, hf⟩ := h
  have hf' : DataW.trod enc Tryd.prog W 0 (fun _ => true) true fuel 22 [.slice a0 len0 cap0] = some (d, p) := hf
  rcases x_open_rows Tryd.underlying22 xcellsN hf' with ⟨e, _⟩ | ⟨a, len, cap, es, rs, m, e, hx, hl, hm, hes, hel⟩
  · cases e
    exact ⟨none, 0, 0, fun _ => (0, 0, 0, 0), rfl, Or.inl ⟨rfl, rfl⟩, fun i hi => by omega, by decide⟩
  · cases e
    have hb := hz es rs hx
    rw [xbytesN, hes] at hb
    have hsp : a.spot = none ∧ a.block < W.heap.size := by
      have h1 : Value.okWide Tryd.prog W .any base 22 (.slice (some a) len0 cap0) := hv
      simp only [Value.okWide, Cell.okWide, Cell.ok, Tryd.underlying22] at h1
      obtain ⟨_, _, _, hsp, row, cells, hs, _⟩ := h1
      refine ⟨hsp, ?_⟩
      rcases Nat.lt_or_ge a.block W.heap.size with h | h
      · exact h
      · simp [World.shape?, Array.getElem?_eq_none h] at hs
    obtain ⟨T, hT⟩ := x_pick (P := fun i (T : Int × Int × Int × Nat) => (T.2.2.2 < 115792089237316195423570985008687907853269984665640564039457584007913129639936 ∧ rng T.1 ∧ rng T.2.1 ∧ rng T.2.2.1) ∧ ∀ j, j < 7 → W.cell? ((a.add (i * 7)).add j) = some (nC T j)) (0, 0, 0, 0) (fun i hi => by
      obtain ⟨cs, y, hcl, hcc, ht, _⟩ := hel i hi
      obtain ⟨T, hP, hT⟩ := x_readN hcl ht
      exact ⟨T, hP, fun j hj => (hcc j hj).trans (hT j hj)⟩)
    exact ⟨some a, len0, cap0, T, rfl, x_mkRs hl hm hsp (fun i hi => (hT i hi).2), fun i hi => (hT i hi).1, by unfold reachBytes at hb; omega⟩
set_option maxRecDepth 100000 in
theorem openQt {base : Nat} {v : Value} {d : DataW H} {p : List MemPlace} (hv : Value.okWide Tryd.prog W .any base 31 v) (h : DataW.Trod enc Tryd.prog W 0 (fun _ => true) true 31 v d p)
    (hz : ∀ el sp, d = .slice el sp → (el.length + sp.length) * Tryd.prog.bytesOf 51 ≤ reachBytes) :
    ∃ (o : Option Addr) (n c : Nat) (T : Nat → Int × Int × Int), v = .slice o n c ∧ Rs W (.slice o n c) 3 n (fun i => qC (T i)) ∧ (∀ i, i < n → rngQ (T i)) ∧ n ≤ 5864062014805 := by
  obtain ⟨a0, len0, cap0, rfl⟩ := okWide_slice Tryd.underlying31 hv
  obtain ⟨fuel, hf⟩ := h
  have hf' : DataW.trod enc Tryd.prog W 0 (fun _ => true) true fuel 31 [.slice a0 len0 cap0] = some (d, p) := hf
  rcases x_open_rows Tryd.underlying31 xcellsQ hf' with ⟨e, _⟩ | ⟨a, len, cap, es, rs, m, e, hx, hl, hm, hes, hel⟩
  · cases e
    exact ⟨none, 0, 0, fun _ => (0, 0, 0), rfl, Or.inl ⟨rfl, rfl⟩, fun i hi => by omega, by decide⟩
  · cases e
    have hb := hz es rs hx
    rw [xbytesQ, hes] at hb
    have hsp : a.spot = none ∧ a.block < W.heap.size := by
      have h1 : Value.okWide Tryd.prog W .any base 31 (.slice (some a) len0 cap0) := hv
      simp only [Value.okWide, Cell.okWide, Cell.ok, Tryd.underlying31] at h1
      obtain ⟨_, _, _, hsp, row, cells, hs, _⟩ := h1
      refine ⟨hsp, ?_⟩
      rcases Nat.lt_or_ge a.block W.heap.size with h | h
      · exact h
      · simp [World.shape?, Array.getElem?_eq_none h] at hs
    obtain ⟨T, hT⟩ := x_pick (P := fun i (T : Int × Int × Int) => (rngQ T) ∧ ∀ j, j < 3 → W.cell? ((a.add (i * 3)).add j) = some (qC T j)) (0, 0, 0) (fun i hi => by
      obtain ⟨cs, y, hcl, hcc, ht, _⟩ := hel i hi
      obtain ⟨T, hP, hT⟩ := readQ hcl ht
      exact ⟨T, hP, fun j hj => (hcc j hj).trans (hT j hj)⟩)
    exact ⟨some a, len0, cap0, T, rfl, x_mkRs hl hm hsp (fun i hi => (hT i hi).2), fun i hi => (hT i hi).1, by unfold reachBytes at hb; omega⟩
end

end Go.Proofs.YtimjgebiffemnaaDoor
