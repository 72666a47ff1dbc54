/- A circuit that is handed in is read: its lists, its numbers, their sizes. No walk. -/
import Derived.Test.YtbhljgenicahoaaRows
import Derived.Test.YtbhljgenicahoaaCLE
import Derived.Test.YtbhljgenicahoaaBA
import Derived.ProofKit
import Derived.Laws.IdiomArrays
import Derived.SizedLaws
namespace Go.Proofs.Ytbhljgenicahoaa
open Go.ChangeShapes Go.WideShapes Go.ChangeAt Go.RowKit
open Go.WideMaps Go.WideElems

theorem Try.own : ownKnob Try.prog.godebug = none := by kernel_rfl
theorem Try.cellsU : Try.prog.cellsOf 45 = 1 := by kernel_rfl
theorem Try.cellsE : Try.prog.cellsOf 47 = 4 := by kernel_rfl
theorem Try.cellsI : Try.prog.cellsOf 3 = 1 := by kernel_rfl
theorem Try.cellsN : Try.prog.cellsOf 49 = 7 := by kernel_rfl
theorem Try.cellsL : Try.prog.cellsOf 53 = 2 := by kernel_rfl
theorem Try.cellsC : Try.prog.cellsOf 64 = 2 := by kernel_rfl
theorem Try.cellsCi : Try.prog.cellsOf 27 = 7 := by kernel_rfl
theorem Try.cellsSI : Try.prog.cellsOf 23 = 1 := by kernel_rfl
theorem Try.cellsSN : Try.prog.cellsOf 22 = 1 := by kernel_rfl
theorem Try.cellsSL : Try.prog.cellsOf 24 = 1 := by kernel_rfl
theorem Try.cellsSC : Try.prog.cellsOf 25 = 1 := by kernel_rfl
theorem Try.bytesI : Try.prog.bytesOf 3 = 8 := by kernel_rfl
theorem Try.undN : Try.prog.underlying 49 = some (.struct (Try.prog.fieldsOf 49)) := by kernel_rfl
theorem Try.undL : Try.prog.underlying 53 = some (.struct (Try.prog.fieldsOf 53)) := by kernel_rfl
theorem Try.undC : Try.prog.underlying 64 = some (.struct (Try.prog.fieldsOf 64)) := by kernel_rfl
theorem Try.undCi : Try.prog.underlying 27 = some (.struct (Try.prog.fieldsOf 27)) := by kernel_rfl
section
variable {H : Type} {enc : TypeId × Value → H} {W : World}
theorem field_get {base fuel : Nat} {sp : Nat → Bool} {held : Bool} {t : TypeId} {fs : Array Field} {cs : List Value} {x : DataW H × List MemPlace} (hfs : Try.prog.underlying t = some (.struct fs)) (L : List (TypeId × Nat)) (hL : fs.toList.map (fun f => (f.type, f.offset)) = L) (h : DataW.trod enc Try.prog W base sp held fuel t cs = some x) :
    ∃ (xs : List (DataW H × List MemPlace)) (m : Nat), x.1 = .agg (xs.map (·.1)) ∧ xs.length = L.length ∧ ∀ (i : Nat) (ty : TypeId) (off : Nat), L[i]? = some (ty, off) → DataW.trod enc Try.prog W base sp held m ty ((cs.drop off).take (Try.prog.cellsOf ty)) = xs[i]? := by
  obtain ⟨xs, m, _, hx, _, hxl, hf⟩ := DataW.trod_struct hfs h
  refine ⟨xs, m, by rw [hx], ?_, fun i ty off hi => ?_⟩
  · rw [hxl, ← hL]; simp
  · rw [← hL, List.getElem?_map] at hi
    obtain ⟨f, hf1, hf2⟩ := Option.map_eq_some_iff.mp hi
    simp only [Prod.mk.injEq] at hf2
    have h1 := hf i f (by simpa using hf1)
    rw [hf2.1, hf2.2] at h1
    exact h1
theorem readI {base fuel : Nat} {sp : Nat → Bool} {held : Bool} {c : Value} {x : DataW H × List MemPlace} (h : DataW.trod enc Try.prog W base sp held fuel 3 [c] = some x) : ∃ z : Int, c = .int .i64 z ∧ rng z := by
  obtain ⟨z, e, _, hw⟩ := DataW.trod_int Try.underlying3 h
  simp at e
  refine ⟨z, e, ?_⟩
  have h1 : IntKind.i64.min = -9223372036854775808 ∧ IntKind.i64.max = 9223372036854775807 := by decide
  simp only [Lit.wf, h1.1, h1.2, Bool.and_eq_true, decide_eq_true_eq] at hw
  exact hw
theorem add_plain (b o j : Nat) : (⟨b, o, none⟩ : Addr).add j = ⟨b, o + j, none⟩ := by unfold Addr.add; split <;> simp_all
set_option maxRecDepth 100000 in
theorem readE {base fuel : Nat} {sp : Nat → Bool} {held : Bool} {c0 c1 c2 c3 : Value} {x : DataW H × List MemPlace} (h : DataW.trod enc Try.prog W base sp held fuel 47 [c0, c1, c2, c3] = some x) :
    ∃ x : Nat, x < 115792089237316195423570985008687907853269984665640564039457584007913129639936 ∧ c0 = .int .u64 ((limb 0 x : Nat) : Int) ∧ c1 = .int .u64 ((limb 1 x : Nat) : Int) ∧ c2 = .int .u64 ((limb 2 x : Nat) : Int) ∧ c3 = .int .u64 ((limb 3 x : Nat) : Int) := by
  obtain ⟨y0, y1, y2, y3, k, _, hy0, hy1, hy2, hy3⟩ := trod_array4 Try.underlying47 Try.cellsU h
  obtain ⟨x0, e0, _, w0⟩ := DataW.trod_int Try.underlying45 hy0
  obtain ⟨x1, e1, _, w1⟩ := DataW.trod_int Try.underlying45 hy1
  obtain ⟨x2, e2, _, w2⟩ := DataW.trod_int Try.underlying45 hy2
  obtain ⟨x3, e3, _, w3⟩ := DataW.trod_int Try.underlying45 hy3
  simp at e0 e1 e2 e3
  subst e0 e1 e2 e3
  have b0 := bounds_u64' w0; have b1 := bounds_u64' w1; have b2 := bounds_u64' w2; have b3 := bounds_u64' w3
  obtain ⟨n0, rfl⟩ := Int.eq_ofNat_of_zero_le b0.1
  obtain ⟨n1, rfl⟩ := Int.eq_ofNat_of_zero_le b1.1
  obtain ⟨n2, rfl⟩ := Int.eq_ofNat_of_zero_le b2.1
  obtain ⟨n3, rfl⟩ := Int.eq_ofNat_of_zero_le b3.1
  have g := limbs_of n0 n1 n2 n3 (by omega) (by omega) (by omega) (by omega) _ rfl
  refine ⟨_, g.2.2.2.2, ?_, ?_, ?_, ?_⟩
  · rw [← g.1]
  · rw [← g.2.1]
  · rw [← g.2.2.1]
  · rw [← g.2.2.2.1]
theorem list7c {α : Type} (l : List α) (h : l.length = 7) : ∃ a b c d e f g, l = [a, b, c, d, e, f, g] := by
  match l, h with
  | [a, b, c, d, e, f, g], _ => exact ⟨a, b, c, d, e, f, g, rfl⟩
theorem list2c {α : Type} (l : List α) (h : l.length = 2) : ∃ a b, l = [a, b] := by
  match l, h with
  | [a, b], _ => exact ⟨a, b, rfl⟩
theorem list1c {α : Type} (l : List α) (h : l.length = 1) : ∃ a, l = [a] := by
  match l, h with
  | [a], _ => exact ⟨a, rfl⟩
theorem some_of {α : Type} {l : List α} {i : Nat} {o : Option α} (h : o = l[i]?) (hi : i < l.length) : ∃ y, o = some y := ⟨l[i], by rw [h, List.getElem?_eq_getElem hi]⟩
set_option maxRecDepth 100000 in
theorem readN {base fuel : Nat} {sp : Nat → Bool} {held : Bool} {cs : List Value} {x : DataW H × List MemPlace} (hl : cs.length = 7) (h : DataW.trod enc Try.prog W base sp held fuel 49 cs = some x) : ∃ T : Int × Int × Int × Nat, ∀ j, j < 7 → cs[j]? = some (nC T j) := by
  obtain ⟨c0, c1, c2, c3, c4, c5, c6, rfl⟩ := list7c cs hl
  obtain ⟨xs, m, _, hxl, hg⟩ := field_get Try.undN [(3, 0), (3, 1), (3, 2), (47, 3)] (by kernel_rfl) h
  have g0 := hg 0 _ _ rfl; have g1 := hg 1 _ _ rfl; have g2 := hg 2 _ _ rfl; have g3 := hg 3 _ _ rfl
  rw [Try.cellsI] at g0 g1 g2
  rw [Try.cellsE] at g3
  have hx4 : xs.length = 4 := hxl
  obtain ⟨y0, k0⟩ := some_of g0 (by omega); obtain ⟨y1, k1⟩ := some_of g1 (by omega); obtain ⟨y2, k2⟩ := some_of g2 (by omega); obtain ⟨y3, k3⟩ := some_of g3 (by omega)
  obtain ⟨O, rfl, _⟩ := readI k0
  obtain ⟨A, rfl, _⟩ := readI k1
  obtain ⟨B, rfl, _⟩ := readI k2
  obtain ⟨V, _, rfl, rfl, rfl, rfl⟩ := readE k3
  refine ⟨(O, A, B, V), fun j hj => ?_⟩
  have hj' : j = 0 ∨ j = 1 ∨ j = 2 ∨ j = 3 ∨ j = 4 ∨ j = 5 ∨ j = 6 := by omega
  rcases hj' with rfl | rfl | rfl | rfl | rfl | rfl | rfl <;> rfl
theorem readC {base fuel : Nat} {sp : Nat → Bool} {held : Bool} {cs : List Value} {x : DataW H × List MemPlace} (hl : cs.length = 2) (h : DataW.trod enc Try.prog W base sp held fuel 64 cs = some x) : ∃ p : Int × Int, cs = [.int .i64 p.1, .int .i64 p.2] ∧ rng p.1 ∧ rng p.2 := by
  obtain ⟨c0, c1, rfl⟩ := list2c cs hl
  obtain ⟨xs, m, _, hxl, hg⟩ := field_get Try.undC [(3, 0), (3, 1)] (by kernel_rfl) h
  have g0 := hg 0 _ _ rfl; have g1 := hg 1 _ _ rfl
  rw [Try.cellsI] at g0 g1
  have hx2 : xs.length = 2 := hxl
  obtain ⟨y0, k0⟩ := some_of g0 (by omega); obtain ⟨y1, k1⟩ := some_of g1 (by omega)
  obtain ⟨X, rfl, hX⟩ := readI k0
  obtain ⟨Y, rfl, hY⟩ := readI k1
  exact ⟨(X, Y), rfl, hX, hY⟩
theorem readL {base fuel : Nat} {sp : Nat → Bool} {held : Bool} {cs : List Value} {x : DataW H × List MemPlace} (hl : cs.length = 2) (h : DataW.trod enc Try.prog W base sp held fuel 53 cs = some x) :
    ∃ (u v : Value) (m : Nat) (y z : DataW H × List MemPlace), cs = [u, v] ∧ x.1 = .agg [y.1, z.1] ∧ DataW.trod enc Try.prog W base sp held m 23 [u] = some y ∧ DataW.trod enc Try.prog W base sp held m 23 [v] = some z := by
  obtain ⟨c0, c1, rfl⟩ := list2c cs hl
  obtain ⟨xs, m, hx, hxl, hg⟩ := field_get Try.undL [(23, 0), (23, 1)] (by kernel_rfl) h
  have g0 := hg 0 _ _ rfl; have g1 := hg 1 _ _ rfl
  rw [Try.cellsSI] at g0 g1
  obtain ⟨y, z, rfl⟩ := list2c xs hxl
  exact ⟨c0, c1, m, y, z, rfl, hx, g0, g1⟩
/-- A slice that is read: its elements' cells. -/
theorem open_rows {base fuel s : Nat} {t e : TypeId} {v : Value} {x : DataW H × List MemPlace} (ht : Try.prog.underlying t = some (.slice e)) (hce : Try.prog.cellsOf e = s) (h : DataW.trod enc Try.prog W base (fun _ => true) true fuel t [v] = some x) :
    (v = .slice none 0 0 ∧ x.1 = .nil) ∨ ∃ (a : Addr) (len cap : Nat) (es rs : List (DataW H)) (m : Nat), v = .slice (some a) len cap ∧ x.1 = .slice es rs ∧ len ≤ cap ∧ cap ≤ maxLen ∧ es.length = len ∧
      ∀ i, i < len → ∃ (cs : List Value) (y : DataW H × List MemPlace), cs.length = s ∧ (∀ j, j < s → W.cell? ((a.add (i * s)).add j) = cs[j]?) ∧ DataW.trod enc Try.prog W base (fun _ => true) true m e cs = some y ∧ es[i]? = some y.1 := by
  rcases DataW.trod_slice ht h with ⟨hcs, hx⟩ | ⟨a, len, cap, elems, rest, m, _, hcs, hx, _, hl, hm, hlen, hel, _, _⟩
  · simp at hcs
    exact Or.inl ⟨hcs, by rw [hx]⟩
  · simp at hcs
    refine Or.inr ⟨a, len, cap, elems.map (·.1), rest.map (·.1), m, hcs, by rw [hx], hl, hm, by simpa using hlen, fun i hi => ?_⟩
    have he := hel i hi
    rw [hce, List.getElem?_eq_getElem (by omega)] at he
    obtain ⟨cs, hcs, ht⟩ := Option.bind_eq_some_iff.1 he
    obtain ⟨_, hcl, hcc⟩ := World.cells?_some hcs
    exact ⟨cs, _, hcl, hcc, ht, by rw [List.getElem?_map, List.getElem?_eq_getElem (by omega)]; rfl⟩
theorem cell_spot {a : Addr} {v : Value} (h : W.cell? a = some v) : a.spot = none ∧ a.block < W.heap.size := by
  unfold World.cell? at h
  split at h
  · rename_i hb
    refine ⟨?_, (Array.getElem?_eq_some_iff.1 hb).1⟩
    cases hs : a.spot with
    | none => rfl
    | some k => rw [hs] at h; simp at h
  · cases h
set_option maxRecDepth 100000 in
/-- A slice's place, where the slice stands in a value that is handed in. -/
theorem slice_spot {base : Nat} {t e : TypeId} {a : Addr} {len cap : Nat} (ht : Try.prog.underlying t = some (.slice e)) (hv : Cell.okWide Try.prog W .any base t (.slice (some a) len cap)) : a.spot = none ∧ a.block < W.heap.size := by
  have h1 := hv
  simp only [Cell.okWide, Cell.ok, ht] at h1
  obtain ⟨_, _, _, hsp, row, cells, hs, _⟩ := h1
  refine ⟨hsp, ?_⟩
  rcases Nat.lt_or_ge a.block W.heap.size with h | h
  · exact h
  · simp [World.shape?, Array.getElem?_eq_none h] at hs
theorem wAll {e : TypeId} : ∀ {es : List (DataW H)} {i : Nat} {d : DataW H}, es[i]? = some d → ∀ q ∈ d.weights Try.prog e, q ∈ DataW.weightsAll Try.prog e es
  | [], i, d, h => by simp at h
  | c :: r, 0, d, h => fun q hq => by
    simp at h
    subst h
    simp [DataW.weightsAll, hq]
  | c :: r, i + 1, d, h => fun q hq => by
    have h1 := wAll (es := r) (i := i) (d := d) (by simpa using h) q hq
    simp [DataW.weightsAll, h1]
theorem wEach : ∀ {ts : List TypeId} {ds : List (DataW H)} {i : Nat} {t : TypeId} {d : DataW H}, ts[i]? = some t → ds[i]? = some d → ∀ q ∈ d.weights Try.prog t, q ∈ DataW.weightsEach Try.prog ts ds
  | [], ds, i, t, d, h, _ => by simp at h
  | t0 :: ts, [], i, t, d, _, h => by simp at h
  | t0 :: ts, d0 :: ds, 0, t, d, h, h' => fun q hq => by
    simp at h h'
    subst h h'
    simp [DataW.weightsEach, hq]
  | t0 :: ts, d0 :: ds, i + 1, t, d, h, h' => fun q hq => by
    have h1 := wEach (ts := ts) (ds := ds) (i := i) (t := t) (d := d) (by simpa using h) (by simpa using h') q hq
    simp [DataW.weightsEach, h1]
/-- A slice of numbers that is read. -/
theorem openZq {fuel : Nat} {v : Value} {x : DataW H × List MemPlace} (h : DataW.trod enc Try.prog W 0 (fun _ => true) true fuel 23 [v] = some x) (hz : ∀ q ∈ x.1.weights Try.prog 23, q ≤ reachBytes) :
    ∃ (n : Nat) (f : Nat → Int), Zq W v n f ∧ n ≤ 17592186044416 := by
  rcases open_rows Try.underlying23 Try.cellsI h with ⟨rfl, _⟩ | ⟨a, len, cap, es, rs, m, rfl, hx, hl, hm, hes, hel⟩
  · exact ⟨0, fun _ => 0, Or.inl (Or.inl ⟨rfl, rfl⟩), by decide⟩
  · have hb : len ≤ 17592186044416 := by
      have h1 := hz ((es.length + rs.length) * Try.prog.bytesOf 3) (by rw [hx]; simp [DataW.weights, Try.underlying23])
      rw [Try.bytesI, hes] at h1
      unfold reachBytes at h1
      omega
    rcases Nat.eq_zero_or_pos len with h0 | h0
    · subst h0
      exact ⟨0, fun _ => 0, Or.inr ⟨rfl, _, _, rfl⟩, by decide⟩
    · have each : ∀ i, i < len → ∃ z : Int, W.cell? (a.add i) = some (.int .i64 z) := by
        intro i hi
        obtain ⟨cs, y, hcl, hcc, ht, _⟩ := hel i hi
        obtain ⟨c, rfl⟩ := list1c cs hcl
        obtain ⟨z, rfl, _⟩ := readI ht
        have h1 := hcc 0 (by decide)
        rw [Nat.mul_one] at h1
        exact ⟨z, h1⟩
      obtain ⟨z0, hz0⟩ := each 0 h0
      have hsp := cell_spot hz0
      obtain ⟨b, o, sp⟩ := a
      have hsp' : sp = none := hsp.1
      subst hsp'
      refine ⟨len, fun i => if h : i < len then (each i h).choose else 0, Or.inl (Or.inr ⟨b, o, cap, rfl, hl, hm, hsp.2, fun i hi j hj => ?_⟩), hb⟩
      have hj0 : j = 0 := by omega
      subst hj0
      dsimp only
      rw [dif_pos hi, Nat.mul_one, Nat.add_zero, ← add_plain]
      exact (each i hi).choose_spec
set_option maxRecDepth 100000 in
theorem Zq.strong {base n : Nat} {v : Value} {f : Nat → Int} (h : Zq W v n f) (hv : Cell.okWide Try.prog W .any base 23 v) (hc : ∀ a c, v = .slice (some a) 0 c → c ≤ maxLen) : Zs W v n f := by
  rcases h with h | ⟨rfl, a, c, rfl⟩
  · exact h
  · have hsp := slice_spot Try.underlying23 hv
    obtain ⟨b, o, sp⟩ := a
    have hsp' : sp = none := hsp.1
    subst hsp'
    exact Or.inr ⟨b, o, c, rfl, Nat.zero_le _, hc _ _ rfl, hsp.2, fun i hi => by omega⟩
end

end Go.Proofs.Ytbhljgenicahoaa
