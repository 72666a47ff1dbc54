/- A circuit that is handed in is read: its lists, its numbers, their sizes. No walk. -/
import Derived.Test.YtgldibfpidmfhaaGreatDoorRows
import Derived.Test.YtgldibfpidmfhaaGreatDoorULF
import Derived.Test.YtgldibfpidmfhaaGreatDoorUBM
import Derived.ProofKit
import Derived.Laws.IdiomArrays
import Derived.SizedLaws
import Derived.Test.YtgldibfpidmfhaaGreatDoorUSHA
namespace Go.Proofs.YtgldibfpidmfhaaGreatDoor
open Go.ChangeShapes Go.WideShapes Go.ChangeAt Go.RowKit
open Go.WideMaps Go.WideElems
theorem Tryz.own : ownKnob Tryz.prog.godebug = none := by kernel_rfl
theorem Tryz.cellsU : Tryz.prog.cellsOf 48 = 1 := by kernel_rfl
theorem Tryz.cellsE : Tryz.prog.cellsOf 50 = 4 := by kernel_rfl
theorem Tryz.cellsI : Tryz.prog.cellsOf 3 = 1 := by kernel_rfl
theorem Tryz.cellsN : Tryz.prog.cellsOf 56 = 7 := by kernel_rfl
theorem Tryz.cellsL : Tryz.prog.cellsOf 62 = 2 := by kernel_rfl
theorem Tryz.cellsC : Tryz.prog.cellsOf 85 = 2 := by kernel_rfl
theorem Tryz.cellsCi : Tryz.prog.cellsOf 27 = 7 := by kernel_rfl
theorem Tryz.cellsSI : Tryz.prog.cellsOf 23 = 1 := by kernel_rfl
theorem Tryz.cellsSN : Tryz.prog.cellsOf 22 = 1 := by kernel_rfl
theorem Tryz.cellsSL : Tryz.prog.cellsOf 24 = 1 := by kernel_rfl
theorem Tryz.cellsSC : Tryz.prog.cellsOf 25 = 1 := by kernel_rfl
theorem Tryz.bytesI : Tryz.prog.bytesOf 3 = 8 := by kernel_rfl
theorem Tryz.undN : Tryz.prog.underlying 56 = some (.struct (Tryz.prog.fieldsOf 56)) := by kernel_rfl
theorem Tryz.undL : Tryz.prog.underlying 62 = some (.struct (Tryz.prog.fieldsOf 62)) := by kernel_rfl
theorem Tryz.undC : Tryz.prog.underlying 85 = some (.struct (Tryz.prog.fieldsOf 85)) := by kernel_rfl
theorem Tryz.undCi : Tryz.prog.underlying 27 = some (.struct (Tryz.prog.fieldsOf 27)) := by kernel_rfl
section
variable {H : Type} {enc : TypeId × Value → H} {W : World}
theorem field_get {base fuel : Nat} {sp : Nat → Bool} {held : Bool} {t : TypeId} {fs : Array Field} {cs : List Value} {x : DataW H × List MemPlace} (hfs : Tryz.prog.underlying t = some (.struct fs)) (L : List (TypeId × Nat)) (hL : fs.toList.map (fun f => (f.type, f.offset)) = L) (h : DataW.trod enc Tryz.prog W base sp held fuel t cs = some x) :
    ∃ (xs : List (DataW H × List MemPlace)) (m : Nat), x.1 = .agg (xs.map (·.1)) ∧ xs.length = L.length ∧ ∀ (i : Nat) (ty : TypeId) (off : Nat), L[i]? = some (ty, off) → DataW.trod enc Tryz.prog W base sp held m ty ((cs.drop off).take (Tryz.prog.cellsOf ty)) = xs[i]? := by
  obtain ⟨xs, m, _, hx, _, hxl, hf⟩ := DataW.trod_struct hfs h
  refine ⟨xs, m, by rw [hx], ?_, fun i ty off hi => ?_⟩
  · rw [hxl, ← hL]; simp
  · rw [← hL, List.getElem?_map] at hi
    obtain ⟨f, hf1, hf2⟩ := Option.map_eq_some_iff.mp hi
    simp only [Prod.mk.injEq] at hf2
    have h1 := hf i f (by simpa using hf1)
    rw [hf2.1, hf2.2] at h1
    exact h1
theorem readI {base fuel : Nat} {sp : Nat → Bool} {held : Bool} {c : Value} {x : DataW H × List MemPlace} (h : DataW.trod enc Tryz.prog W base sp held fuel 3 [c] = some x) : ∃ z : Int, c = .int .i64 z ∧ rng z := by
  obtain ⟨z, e, _, hw⟩ := DataW.trod_int Tryz.underlying3 h
  simp at e
  refine ⟨z, e, ?_⟩
  have h1 : IntKind.i64.min = -9223372036854775808 ∧ IntKind.i64.max = 9223372036854775807 := by decide
  simp only [Lit.wf, h1.1, h1.2, Bool.and_eq_true, decide_eq_true_eq] at hw
  exact hw
theorem add_plain (b o j : Nat) : (⟨b, o, none⟩ : Addr).add j = ⟨b, o + j, none⟩ := by unfold Addr.add; split <;> simp_all
set_option maxRecDepth 100000 in
theorem readE {base fuel : Nat} {sp : Nat → Bool} {held : Bool} {c0 c1 c2 c3 : Value} {x : DataW H × List MemPlace} (h : DataW.trod enc Tryz.prog W base sp held fuel 50 [c0, c1, c2, c3] = some x) :
    ∃ x : Nat, x < 115792089237316195423570985008687907853269984665640564039457584007913129639936 ∧ c0 = .int .u64 ((limb 0 x : Nat) : Int) ∧ c1 = .int .u64 ((limb 1 x : Nat) : Int) ∧ c2 = .int .u64 ((limb 2 x : Nat) : Int) ∧ c3 = .int .u64 ((limb 3 x : Nat) : Int) := by
  obtain ⟨y0, y1, y2, y3, k, _, hy0, hy1, hy2, hy3⟩ := trod_array4 Tryz.underlying50 Tryz.cellsU h
  obtain ⟨x0, e0, _, w0⟩ := DataW.trod_int Tryz.underlying48 hy0
  obtain ⟨x1, e1, _, w1⟩ := DataW.trod_int Tryz.underlying48 hy1
  obtain ⟨x2, e2, _, w2⟩ := DataW.trod_int Tryz.underlying48 hy2
  obtain ⟨x3, e3, _, w3⟩ := DataW.trod_int Tryz.underlying48 hy3
  simp at e0 e1 e2 e3
  subst e0 e1 e2 e3
  have b0 := bounds_u64' w0; have b1 := bounds_u64' w1; have b2 := bounds_u64' w2; have b3 := bounds_u64' w3
  obtain ⟨n0, rfl⟩ := Int.eq_ofNat_of_zero_le b0.1
  obtain ⟨n1, rfl⟩ := Int.eq_ofNat_of_zero_le b1.1
  obtain ⟨n2, rfl⟩ := Int.eq_ofNat_of_zero_le b2.1
  obtain ⟨n3, rfl⟩ := Int.eq_ofNat_of_zero_le b3.1
  have g := limbs_of n0 n1 n2 n3 (by omega) (by omega) (by omega) (by omega) _ rfl
  refine ⟨_, g.2.2.2.2, ?_, ?_, ?_, ?_⟩
  · rw [← g.1]
  · rw [← g.2.1]
  · rw [← g.2.2.1]
  · rw [← g.2.2.2.1]
theorem list7c {α : Type} (l : List α) (h : l.length = 7) : ∃ a b c d e f g, l = [a, b, c, d, e, f, g] := by
  match l, h with
  | [a, b, c, d, e, f, g], _ => exact ⟨a, b, c, d, e, f, g, rfl⟩
theorem list2c {α : Type} (l : List α) (h : l.length = 2) : ∃ a b, l = [a, b] := by
  match l, h with
  | [a, b], _ => exact ⟨a, b, rfl⟩
theorem list1c {α : Type} (l : List α) (h : l.length = 1) : ∃ a, l = [a] := by
  match l, h with
  | [a], _ => exact ⟨a, rfl⟩
theorem some_of {α : Type} {l : List α} {i : Nat} {o : Option α} (h : o = l[i]?) (hi : i < l.length) : ∃ y, o = some y := ⟨l[i], by rw [h, List.getElem?_eq_getElem hi]⟩
theorem readC {base fuel : Nat} {sp : Nat → Bool} {held : Bool} {cs : List Value} {x : DataW H × List MemPlace} (hl : cs.length = 2) (h : DataW.trod enc Tryz.prog W base sp held fuel 85 cs = some x) : ∃ p : Int × Int, cs = [.int .i64 p.1, .int .i64 p.2] ∧ rng p.1 ∧ rng p.2 := by
  obtain ⟨c0, c1, rfl⟩ := list2c cs hl
  obtain ⟨xs, m, _, hxl, hg⟩ := field_get Tryz.undC [(3, 0), (3, 1)] (by kernel_rfl) h
  have g0 := hg 0 _ _ rfl; have g1 := hg 1 _ _ rfl
  rw [Tryz.cellsI] at g0 g1
  have hx2 : xs.length = 2 := hxl
  obtain ⟨y0, k0⟩ := some_of g0 (by omega); obtain ⟨y1, k1⟩ := some_of g1 (by omega)
  obtain ⟨X, rfl, hX⟩ := readI k0
  obtain ⟨Y, rfl, hY⟩ := readI k1
  exact ⟨(X, Y), rfl, hX, hY⟩
theorem readL {base fuel : Nat} {sp : Nat → Bool} {held : Bool} {cs : List Value} {x : DataW H × List MemPlace} (hl : cs.length = 2) (h : DataW.trod enc Tryz.prog W base sp held fuel 62 cs = some x) :
    ∃ (u v : Value) (m : Nat) (y z : DataW H × List MemPlace), cs = [u, v] ∧ x.1 = .agg [y.1, z.1] ∧ DataW.trod enc Tryz.prog W base sp held m 23 [u] = some y ∧ DataW.trod enc Tryz.prog W base sp held m 23 [v] = some z := by
  obtain ⟨c0, c1, rfl⟩ := list2c cs hl
  obtain ⟨xs, m, hx, hxl, hg⟩ := field_get Tryz.undL [(23, 0), (23, 1)] (by kernel_rfl) h
  have g0 := hg 0 _ _ rfl; have g1 := hg 1 _ _ rfl
  rw [Tryz.cellsSI] at g0 g1
  obtain ⟨y, z, rfl⟩ := list2c xs hxl
  exact ⟨c0, c1, m, y, z, rfl, hx, g0, g1⟩
/-- A slice that is read: its elements' cells. -/
theorem open_rows {base fuel s : Nat} {t e : TypeId} {v : Value} {x : DataW H × List MemPlace} (ht : Tryz.prog.underlying t = some (.slice e)) (hce : Tryz.prog.cellsOf e = s) (h : DataW.trod enc Tryz.prog W base (fun _ => true) true fuel t [v] = some x) :
    (v = .slice none 0 0 ∧ x.1 = .nil) ∨ ∃ (a : Addr) (len cap : Nat) (es rs : List (DataW H)) (m : Nat), v = .slice (some a) len cap ∧ x.1 = .slice es rs ∧ len ≤ cap ∧ cap ≤ maxLen ∧ es.length = len ∧
      ∀ i, i < len → ∃ (cs : List Value) (y : DataW H × List MemPlace), cs.length = s ∧ (∀ j, j < s → W.cell? ((a.add (i * s)).add j) = cs[j]?) ∧ DataW.trod enc Tryz.prog W base (fun _ => true) true m e cs = some y ∧ es[i]? = some y.1 := by
  rcases DataW.trod_slice ht h with ⟨hcs, hx⟩ | ⟨a, len, cap, elems, rest, m, _, hcs, hx, _, hl, hm, hlen, hel, _, _⟩
  · simp at hcs
    exact Or.inl ⟨hcs, by rw [hx]⟩
  · simp at hcs
    refine Or.inr ⟨a, len, cap, elems.map (·.1), rest.map (·.1), m, hcs, by rw [hx], hl, hm, by simpa using hlen, fun i hi => ?_⟩
    have he := hel i hi
    rw [hce, List.getElem?_eq_getElem (by omega)] at he
    obtain ⟨cs, hcs, ht⟩ := Option.bind_eq_some_iff.1 he
    obtain ⟨_, hcl, hcc⟩ := World.cells?_some hcs
    exact ⟨cs, _, hcl, hcc, ht, by rw [List.getElem?_map, List.getElem?_eq_getElem (by omega)]; rfl⟩
theorem cell_spot {a : Addr} {v : Value} (h : W.cell? a = some v) : a.spot = none ∧ a.block < W.heap.size := by
  unfold World.cell? at h
  split at h
  · rename_i hb
    refine ⟨?_, (Array.getElem?_eq_some_iff.1 hb).1⟩
    cases hs : a.spot with
    | none => rfl
    | some k => rw [hs] at h; simp at h
  · cases h
set_option maxRecDepth 100000 in
/-- A slice's place, where the slice stands in a value that is handed in. -/
theorem slice_spot {base : Nat} {t e : TypeId} {a : Addr} {len cap : Nat} (ht : Tryz.prog.underlying t = some (.slice e)) (hv : Cell.okWide Tryz.prog W .any base t (.slice (some a) len cap)) : a.spot = none ∧ a.block < W.heap.size := by
  have h1 := hv
  simp only [Cell.okWide, Cell.ok, ht] at h1
  obtain ⟨_, _, _, hsp, row, cells, hs, _⟩ := h1
  refine ⟨hsp, ?_⟩
  rcases Nat.lt_or_ge a.block W.heap.size with h | h
  · exact h
  · simp [World.shape?, Array.getElem?_eq_none h] at hs
theorem wAll {e : TypeId} : ∀ {es : List (DataW H)} {i : Nat} {d : DataW H}, es[i]? = some d → ∀ q ∈ d.weights Tryz.prog e, q ∈ DataW.weightsAll Tryz.prog e es
  | [], i, d, h => by simp at h
  | c :: r, 0, d, h => fun q hq => by
    simp at h
    subst h
    simp [DataW.weightsAll, hq]
  | c :: r, i + 1, d, h => fun q hq => by
    have h1 := wAll (es := r) (i := i) (d := d) (by simpa using h) q hq
    simp [DataW.weightsAll, h1]
theorem wEach : ∀ {ts : List TypeId} {ds : List (DataW H)} {i : Nat} {t : TypeId} {d : DataW H}, ts[i]? = some t → ds[i]? = some d → ∀ q ∈ d.weights Tryz.prog t, q ∈ DataW.weightsEach Tryz.prog ts ds
  | [], ds, i, t, d, h, _ => by simp at h
  | t0 :: ts, [], i, t, d, _, h => by simp at h
  | t0 :: ts, d0 :: ds, 0, t, d, h, h' => fun q hq => by
    simp at h h'
    subst h h'
    simp [DataW.weightsEach, hq]
  | t0 :: ts, d0 :: ds, i + 1, t, d, h, h' => fun q hq => by
    have h1 := wEach (ts := ts) (ds := ds) (i := i) (t := t) (d := d) (by simpa using h) (by simpa using h') q hq
    simp [DataW.weightsEach, h1]
/-- A slice of numbers that is read. -/
theorem openZq {fuel : Nat} {v : Value} {x : DataW H × List MemPlace} (h : DataW.trod enc Tryz.prog W 0 (fun _ => true) true fuel 23 [v] = some x) (hz : ∀ q ∈ x.1.weights Tryz.prog 23, q ≤ reachBytes) :
    ∃ (n : Nat) (f : Nat → Int), Zq W v n f ∧ n ≤ 17592186044416 := by
  rcases open_rows Tryz.underlying23 Tryz.cellsI h with ⟨rfl, _⟩ | ⟨a, len, cap, es, rs, m, rfl, hx, hl, hm, hes, hel⟩
  · exact ⟨0, fun _ => 0, Or.inl (Or.inl ⟨rfl, rfl⟩), by decide⟩
  · have hb : len ≤ 17592186044416 := by
      have h1 := hz ((es.length + rs.length) * Tryz.prog.bytesOf 3) (by rw [hx]; simp [DataW.weights, Tryz.underlying23])
      rw [Tryz.bytesI, hes] at h1
      unfold reachBytes at h1
      omega
    rcases Nat.eq_zero_or_pos len with h0 | h0
    · subst h0
      exact ⟨0, fun _ => 0, Or.inr ⟨rfl, _, _, rfl⟩, by decide⟩
    · have each : ∀ i, i < len → ∃ z : Int, W.cell? (a.add i) = some (.int .i64 z) := by
        intro i hi
        obtain ⟨cs, y, hcl, hcc, ht, _⟩ := hel i hi
        obtain ⟨c, rfl⟩ := list1c cs hcl
        obtain ⟨z, rfl, _⟩ := readI ht
        have h1 := hcc 0 (by decide)
        rw [Nat.mul_one] at h1
        exact ⟨z, h1⟩
      obtain ⟨z0, hz0⟩ := each 0 h0
      have hsp := cell_spot hz0
      obtain ⟨b, o, sp⟩ := a
      have hsp' : sp = none := hsp.1
      subst hsp'
      refine ⟨len, fun i => if h : i < len then (each i h).choose else 0, Or.inl (Or.inr ⟨b, o, cap, rfl, hl, hm, hsp.2, fun i hi j hj => ?_⟩), hb⟩
      have hj0 : j = 0 := by omega
      subst hj0
      dsimp only
      rw [dif_pos hi, Nat.mul_one, Nat.add_zero, ← add_plain]
      exact (each i hi).choose_spec
set_option maxRecDepth 100000 in
theorem Zq.strong {base n : Nat} {v : Value} {f : Nat → Int} (h : Zq W v n f) (hv : Cell.okWide Tryz.prog W .any base 23 v) (hc : ∀ a c, v = .slice (some a) 0 c → c ≤ maxLen) : Zs W v n f := by
  rcases h with h | ⟨rfl, a, c, rfl⟩
  · exact h
  · have hsp := slice_spot Tryz.underlying23 hv
    obtain ⟨b, o, sp⟩ := a
    have hsp' : sp = none := hsp.1
    subst hsp'
    exact Or.inr ⟨b, o, c, rfl, Nat.zero_le _, hc _ _ rfl, hsp.2, fun i hi => by omega⟩
end
end Go.Proofs.YtgldibfpidmfhaaGreatDoor

/- A circuit that is handed in is read, whole. No walk. -/
namespace Go.Proofs.YtgldibfpidmfhaaGreatDoor
open Go.ChangeShapes Go.WideShapes Go.ChangeAt Go.RowKit
open Go.WideMaps Go.WideElems
theorem pick {α : Type} {P : Nat → α → Prop} {len : Nat} (d : α) (h : ∀ i, i < len → ∃ a, P i a) : ∃ F : Nat → α, ∀ i, i < len → P i (F i) :=
  ⟨fun i => if h' : i < len then (h i h').choose else d, fun i hi => by
    dsimp only
    rw [dif_pos hi]
    exact (h i hi).choose_spec⟩
theorem Tryz.bytesN : Tryz.prog.bytesOf 56 = 56 := by kernel_rfl
theorem Tryz.bytesL : Tryz.prog.bytesOf 62 = 48 := by kernel_rfl
theorem Tryz.bytesC : Tryz.prog.bytesOf 85 = 16 := by kernel_rfl
section
variable {H : Type} {enc : TypeId × Value → H} {W : World}
theorem mkRs {a : Addr} {len cap s : Nat} {F : Nat → Nat → Value} (hl : len ≤ cap) (hm : cap ≤ maxLen) (hsp : a.spot = none ∧ a.block < W.heap.size) (hc : ∀ i, i < len → ∀ j, j < s → W.cell? ((a.add (i * s)).add j) = some (F i j)) : Rs W (.slice (some a) len cap) s len F := by
  obtain ⟨b, o, sp⟩ := a
  have hsp' : sp = none := hsp.1
  subst hsp'
  refine Or.inr ⟨b, o, cap, rfl, hl, hm, hsp.2, fun i hi j hj => ?_⟩
  have h := hc i hi j hj
  rw [add_plain, add_plain] at h
  exact h
theorem w_head {t e : TypeId} {es rs : List (DataW H)} {d : DataW H} (ht : Tryz.prog.underlying t = some (.slice e)) (hd : d = .slice es rs) (hz : ∀ q ∈ d.weights Tryz.prog t, q ≤ reachBytes) : (es.length + rs.length) * Tryz.prog.bytesOf e ≤ reachBytes ∧ ∀ (i : Nat) (y : DataW H), es[i]? = some y → ∀ q ∈ y.weights Tryz.prog e, q ≤ reachBytes := by
  subst hd
  refine ⟨hz _ (by simp [DataW.weights, ht]), fun i y hi q hq => hz q ?_⟩
  have h := wAll (e := e) hi q hq
  simp [DataW.weights, ht, h]
set_option maxRecDepth 100000 in
theorem openCs {base fuel : Nat} {v : Value} {x : DataW H × List MemPlace} (hv : Cell.okWide Tryz.prog W .any base 25 v) (h : DataW.trod enc Tryz.prog W 0 (fun _ => true) true fuel 25 [v] = some x) (hz : ∀ q ∈ x.1.weights Tryz.prog 25, q ≤ reachBytes) :
    ∃ (o : Option Addr) (n c : Nat) (E : Nat → Int × Int), v = .slice o n c ∧ Cls W (.slice o n c) n E ∧ n ≤ 8796093022208 ∧ ∀ i, i < n → rng (E i).1 ∧ rng (E i).2 := by
  rcases open_rows Tryz.underlying25 Tryz.cellsC h with ⟨rfl, _⟩ | ⟨a, len, cap, es, rs, m, rfl, hx, hl, hm, hes, hel⟩
  · exact ⟨none, 0, 0, fun _ => (0, 0), rfl, Or.inl ⟨rfl, rfl⟩, by decide, fun i hi => by omega⟩
  · have hb := (w_head Tryz.underlying25 hx hz).1
    rw [Tryz.bytesC, hes] at hb
    obtain ⟨E, hE⟩ := pick (P := fun i (E : Int × Int) => (∀ j, j < 2 → W.cell? ((a.add (i * 2)).add j) = some (pC (.int .i64 E.1, .int .i64 E.2) j)) ∧ rng E.1 ∧ rng E.2) (0, 0) (fun i hi => by
      obtain ⟨cs, y, hcl, hcc, ht, _⟩ := hel i hi
      obtain ⟨p, rfl, h1, h2⟩ := readC hcl ht
      refine ⟨p, fun j hj => (hcc j hj).trans ?_, h1, h2⟩
      have hj' : j = 0 ∨ j = 1 := by omega
      rcases hj' with rfl | rfl <;> rfl)
    exact ⟨some a, len, cap, E, rfl, mkRs hl hm (slice_spot Tryz.underlying25 hv) (fun i hi => (hE i hi).1), by unfold reachBytes at hb; omega, fun i hi => (hE i hi).2⟩
set_option maxRecDepth 100000 in
theorem openLs {base fuel : Nat} {v : Value} {x : DataW H × List MemPlace} (hv : Cell.okWide Tryz.prog W .any base 24 v) (h : DataW.trod enc Tryz.prog W 0 (fun _ => true) true fuel 24 [v] = some x) (hz : ∀ q ∈ x.1.weights Tryz.prog 24, q ≤ reachBytes) :
    ∃ (o : Option Addr) (n c : Nat) (f : Nat → Value × Value) (ni nt : Nat → Nat) (In Tb : Nat → Nat → Int), v = .slice o n c ∧ LkQ W (.slice o n c) n f ni nt In Tb ∧ n ≤ 2932031007402 ∧ ∀ i, i < n → ni i ≤ 17592186044416 ∧ nt i ≤ 17592186044416 := by
  rcases open_rows Tryz.underlying24 Tryz.cellsL h with ⟨rfl, _⟩ | ⟨a, len, cap, es, rs, m, rfl, hx, hl, hm, hes, hel⟩
  · exact ⟨none, 0, 0, fun _ => (undef, undef), fun _ => 0, fun _ => 0, fun _ _ => 0, fun _ _ => 0, rfl, ⟨Or.inl ⟨rfl, rfl⟩, fun i hi => by omega⟩, by decide, fun i hi => by omega⟩
  · have hw := w_head Tryz.underlying24 hx hz
    have hb := hw.1
    rw [Tryz.bytesL, hes] at hb
    obtain ⟨E, hE⟩ := pick (P := fun i (E : (Value × Value) × (Nat × Nat) × (Nat → Int) × (Nat → Int)) => (∀ j, j < 2 → W.cell? ((a.add (i * 2)).add j) = some (pC E.1 j)) ∧ (Zq W E.1.1 E.2.1.1 E.2.2.1 ∧ Zq W E.1.2 E.2.1.2 E.2.2.2) ∧ E.2.1.1 ≤ 17592186044416 ∧ E.2.1.2 ≤ 17592186044416) ((undef, undef), (0, 0), fun _ => 0, fun _ => 0) (fun i hi => by
      obtain ⟨cs, y, hcl, hcc, ht, hy⟩ := hel i hi
      obtain ⟨u, v, m', yy, zz, rfl, hyy, h1, h2⟩ := readL hcl ht
      have hwi := hw.2 i y.1 hy
      rw [hyy] at hwi
      have hT : (Tryz.prog.fieldsOf 62).toList.map (·.type) = [23, 23] := by kernel_rfl
      have hwe : ∀ q ∈ DataW.weightsEach Tryz.prog [23, 23] [yy.1, zz.1], q ≤ reachBytes := fun q hq => hwi q (by
        show q ∈ DataW.weights Tryz.prog 62 (.agg [yy.1, zz.1])
        unfold DataW.weights
        rw [Tryz.undL]
        show q ∈ DataW.weightsEach Tryz.prog ((Tryz.prog.fieldsOf 62).toList.map (·.type)) [yy.1, zz.1]
        rw [hT]
        exact hq)
      obtain ⟨n1, f1, z1, b1⟩ := openZq h1 (fun q hq => hwe q (wEach (i := 0) (t := 23) (d := yy.1) rfl rfl q hq))
      obtain ⟨n2, f2, z2, b2⟩ := openZq h2 (fun q hq => hwe q (wEach (i := 1) (t := 23) (d := zz.1) rfl rfl q hq))
      refine ⟨((u, v), (n1, n2), f1, f2), fun j hj => (hcc j hj).trans ?_, ⟨z1, z2⟩, b1, b2⟩
      have hj' : j = 0 ∨ j = 1 := by omega
      rcases hj' with rfl | rfl <;> rfl)
    exact ⟨some a, len, cap, fun i => (E i).1, fun i => (E i).2.1.1, fun i => (E i).2.1.2, fun i => (E i).2.2.1, fun i => (E i).2.2.2, rfl, ⟨mkRs hl hm (slice_spot Tryz.underlying24 hv) (fun i hi => (hE i hi).1), fun i hi => (hE i hi).2.1⟩, by unfold reachBytes at hb; omega, fun i hi => (hE i hi).2.2⟩
set_option maxRecDepth 100000 in
theorem openGs {base fuel : Nat} {v : Value} {x : DataW H × List MemPlace} (hv : Cell.okWide Tryz.prog W .any base 23 v) (h : DataW.trod enc Tryz.prog W 0 (fun _ => true) true fuel 23 [v] = some x) (hz : ∀ q ∈ x.1.weights Tryz.prog 23, q ≤ reachBytes) :
    ∃ (o : Option Addr) (n c : Nat) (G : Nat → Int), v = .slice o n c ∧ Zs W (.slice o n c) n G ∧ n ≤ 17592186044416 := by
  obtain ⟨n, f, h1, h2⟩ := openZq h hz
  have h3 := h1.strong hv (fun a c e => by
    rcases open_rows Tryz.underlying23 Tryz.cellsI h with ⟨rfl, _⟩ | ⟨a', len, cap, es, rs, m, rfl, hx, hl, hm, hes, hel⟩
    · cases e
    · cases e; exact hm)
  obtain ⟨o, c, e⟩ := Rs.shape h3
  subst e
  exact ⟨o, n, c, f, rfl, h3, h2⟩
end
end Go.Proofs.YtgldibfpidmfhaaGreatDoor

/- A sheet that is handed in is read. No walk. -/
namespace Go.Proofs.YtgldibfpidmfhaaGreatDoor
open Go.ChangeShapes Go.WideShapes Go.ChangeAt Go.RowKit
open Go.WideMaps Go.WideElems
theorem Tryz.bytesE : Tryz.prog.bytesOf 50 = 32 := by kernel_rfl
theorem Tryz.bytesSE : Tryz.prog.bytesOf 41 = 24 := by kernel_rfl
theorem Tryz.cellsSE : Tryz.prog.cellsOf 41 = 1 := by kernel_rfl
theorem Tryz.cellsTE : Tryz.prog.cellsOf 28 = 1 := by kernel_rfl
theorem Tryz.cellsSP : Tryz.prog.cellsOf 29 = 1 := by kernel_rfl
theorem Tryz.cellsP : Tryz.prog.cellsOf 82 = 4 := by kernel_rfl
theorem Tryz.cellsCe : Tryz.prog.cellsOf 80 = 2 := by kernel_rfl
theorem Tryz.cellsSh : Tryz.prog.cellsOf 31 = 4 := by kernel_rfl
theorem Tryz.undP : Tryz.prog.underlying 82 = some (.struct (Tryz.prog.fieldsOf 82)) := by kernel_rfl
theorem Tryz.undCe : Tryz.prog.underlying 80 = some (.struct (Tryz.prog.fieldsOf 80)) := by kernel_rfl
theorem Tryz.undSh : Tryz.prog.underlying 31 = some (.struct (Tryz.prog.fieldsOf 31)) := by kernel_rfl
section
variable {H : Type} {enc : TypeId × Value → H} {W : World}
theorem list4c {α : Type} (l : List α) (h : l.length = 4) : ∃ a b c d, l = [a, b, c, d] := by
  match l, h with
  | [a, b, c, d], _ => exact ⟨a, b, c, d, rfl⟩
/-- A slice of elements that is read. -/
theorem openEz {fuel : Nat} {v : Value} {x : DataW H × List MemPlace} (h : DataW.trod enc Tryz.prog W 0 (fun _ => true) true fuel 41 [v] = some x) (hz : ∀ q ∈ x.1.weights Tryz.prog 41, q ≤ reachBytes) :
    ∃ (n : Nat) (f : Nat → Nat), Ez W v n f ∧ n ≤ 4398046510976 ∧ ∀ i, i < n → f i < 115792089237316195423570985008687907853269984665640564039457584007913129639936 := by
  rcases open_rows Tryz.underlying41 Tryz.cellsE h with ⟨rfl, _⟩ | ⟨a, len, cap, es, rs, m, rfl, hx, hl, hm, hes, hel⟩
  · exact ⟨0, fun _ => 0, Or.inl (Or.inl ⟨rfl, rfl⟩), by decide, fun i hi => by omega⟩
  · have hb := (w_head Tryz.underlying41 hx hz).1
    rw [Tryz.bytesE, hes] at hb
    have hb' : len ≤ 4398046510976 := by unfold reachBytes at hb; omega
    rcases Nat.eq_zero_or_pos len with h0 | h0
    · subst h0
      exact ⟨0, fun _ => 0, Or.inr ⟨rfl, _, _, rfl⟩, by decide, fun i hi => by omega⟩
    · obtain ⟨f, hf⟩ := pick (P := fun i (z : Nat) => (∀ j, j < 4 → W.cell? ((a.add (i * 4)).add j) = some (.int .u64 ((limb j z : Nat) : Int))) ∧ z < 115792089237316195423570985008687907853269984665640564039457584007913129639936) 0 (fun i hi => by
        obtain ⟨cs, y, hcl, hcc, ht, _⟩ := hel i hi
        obtain ⟨c0, c1, c2, c3, rfl⟩ := list4c cs hcl
        obtain ⟨z, hz, rfl, rfl, rfl, rfl⟩ := readE ht
        refine ⟨z, fun j hj => (hcc j hj).trans ?_, hz⟩
        have hj' : j = 0 ∨ j = 1 ∨ j = 2 ∨ j = 3 := by omega
        rcases hj' with rfl | rfl | rfl | rfl <;> rfl)
      have hsp := cell_spot ((hf 0 h0).1 0 (by decide))
      have hsp2 : a.spot = none ∧ a.block < W.heap.size := by
        obtain ⟨b, o, sp⟩ := a
        cases sp with
        | none => exact ⟨rfl, by have := hsp.2; rw [add_plain, add_plain] at this; exact this⟩
        | some k =>
          exfalso
          have h1 := hsp.1
          simp [Addr.add] at h1
      exact ⟨len, f, Or.inl (mkRs hl hm hsp2 (fun i hi => (hf i hi).1)), hb', fun i hi => (hf i hi).2⟩
set_option maxRecDepth 100000 in
/-- A table that is read. -/
theorem openTb {base fuel : Nat} {v : Value} {x : DataW H × List MemPlace} (hv : Cell.okWide Tryz.prog W .any base 28 v) (h : DataW.trod enc Tryz.prog W 0 (fun _ => true) true fuel 28 [v] = some x) (hz : ∀ q ∈ x.1.weights Tryz.prog 28, q ≤ reachBytes) :
    ∃ (o : Option Addr) (n c : Nat) (F : Nat → Value) (L : Nat → Nat) (E : Nat → Nat → Nat), v = .slice o n c ∧ Tab W (.slice o n c) n F L E ∧ n ≤ 10000000000000 ∧ (∀ i, i < n → L i ≤ 4398046510976) ∧ ∀ i, i < n → ∀ j, j < L i → E i j < 115792089237316195423570985008687907853269984665640564039457584007913129639936 := by
  rcases open_rows Tryz.underlying28 Tryz.cellsSE h with ⟨rfl, _⟩ | ⟨a, len, cap, es, rs, m, rfl, hx, hl, hm, hes, hel⟩
  · exact ⟨none, 0, 0, fun _ => undef, fun _ => 0, fun _ _ => 0, rfl, ⟨Or.inl ⟨rfl, rfl⟩, fun i hi => by omega⟩, by decide, fun i hi => by omega, fun i hi => by omega⟩
  · have hw := w_head Tryz.underlying28 hx hz
    have hb := hw.1
    rw [Tryz.bytesSE, hes] at hb
    obtain ⟨D, hD⟩ := pick (P := fun i (D : Value × Nat × (Nat → Nat)) => (∀ j, j < 1 → W.cell? ((a.add (i * 1)).add j) = some D.1) ∧ Ez W D.1 D.2.1 D.2.2 ∧ D.2.1 ≤ 4398046510976 ∧ ∀ j, j < D.2.1 → D.2.2 j < 115792089237316195423570985008687907853269984665640564039457584007913129639936) (undef, 0, fun _ => 0) (fun i hi => by
      obtain ⟨cs, y, hcl, hcc, ht, hy⟩ := hel i hi
      obtain ⟨c, rfl⟩ := list1c cs hcl
      obtain ⟨n1, f1, z1, b1, r1⟩ := openEz ht (hw.2 i y.1 hy)
      refine ⟨(c, n1, f1), fun j hj => (hcc j hj).trans ?_, z1, b1, r1⟩
      have : j = 0 := by omega
      subst this
      rfl)
    exact ⟨some a, len, cap, fun i => (D i).1, fun i => (D i).2.1, fun i => (D i).2.2, rfl, ⟨mkRs hl hm (slice_spot Tryz.underlying28 hv) (fun i hi => (hD i hi).1), fun i hi => (hD i hi).2.1⟩, by unfold reachBytes at hb; omega, fun i hi => (hD i hi).2.2.1, fun i hi => (hD i hi).2.2.2⟩
theorem readCe {base fuel : Nat} {sp : Nat → Bool} {held : Bool} {c0 c1 : Value} {x : DataW H × List MemPlace} (h : DataW.trod enc Tryz.prog W base sp held fuel 80 [c0, c1] = some x) : ∃ a b : Int, c0 = .int .i64 a ∧ c1 = .int .i64 b := by
  obtain ⟨xs, m, _, hxl, hg⟩ := field_get Tryz.undCe [(3, 0), (3, 1)] (by kernel_rfl) h
  have g0 := hg 0 _ _ rfl; have g1 := hg 1 _ _ rfl
  rw [Tryz.cellsI] at g0 g1
  have hx2 : xs.length = 2 := hxl
  obtain ⟨y0, k0⟩ := some_of g0 (by omega); obtain ⟨y1, k1⟩ := some_of g1 (by omega)
  obtain ⟨X, rfl, hX⟩ := readI k0
  obtain ⟨Y, rfl, hY⟩ := readI k1
  exact ⟨X, Y, rfl, rfl⟩
theorem readP {base fuel : Nat} {sp : Nat → Bool} {held : Bool} {cs : List Value} {x : DataW H × List MemPlace} (hl : cs.length = 4) (h : DataW.trod enc Tryz.prog W base sp held fuel 82 cs = some x) : ∃ p : Int × Int × Int × Int, ∀ j, j < 4 → cs[j]? = some (cpC p j) := by
  obtain ⟨c0, c1, c2, c3, rfl⟩ := list4c cs hl
  obtain ⟨xs, m, _, hxl, hg⟩ := field_get Tryz.undP [(80, 0), (80, 2)] (by kernel_rfl) h
  have g0 := hg 0 _ _ rfl; have g1 := hg 1 _ _ rfl
  rw [Tryz.cellsCe] at g0 g1
  have hx2 : xs.length = 2 := hxl
  obtain ⟨y0, k0⟩ := some_of g0 (by omega); obtain ⟨y1, k1⟩ := some_of g1 (by omega)
  obtain ⟨a, b, rfl, rfl⟩ := readCe k0
  obtain ⟨c, d, rfl, rfl⟩ := readCe k1
  refine ⟨(a, b, c, d), fun j hj => ?_⟩
  have hj' : j = 0 ∨ j = 1 ∨ j = 2 ∨ j = 3 := by omega
  rcases hj' with rfl | rfl | rfl | rfl <;> rfl
set_option maxRecDepth 100000 in
theorem openPs {base fuel : Nat} {v : Value} {x : DataW H × List MemPlace} (hv : Cell.okWide Tryz.prog W .any base 29 v) (h : DataW.trod enc Tryz.prog W 0 (fun _ => true) true fuel 29 [v] = some x) :
    ∃ (o : Option Addr) (n c : Nat) (P : Nat → Int × Int × Int × Int), v = .slice o n c ∧ Cps W (.slice o n c) n P := by
  rcases open_rows Tryz.underlying29 Tryz.cellsP h with ⟨rfl, _⟩ | ⟨a, len, cap, es, rs, m, rfl, hx, hl, hm, hes, hel⟩
  · exact ⟨none, 0, 0, fun _ => (0, 0, 0, 0), rfl, Or.inl ⟨rfl, rfl⟩⟩
  · obtain ⟨P, hP⟩ := pick (P := fun i (P : Int × Int × Int × Int) => ∀ j, j < 4 → W.cell? ((a.add (i * 4)).add j) = some (cpC P j)) (0, 0, 0, 0) (fun i hi => by
      obtain ⟨cs, y, hcl, hcc, ht, _⟩ := hel i hi
      obtain ⟨p, hp⟩ := readP hcl ht
      exact ⟨p, fun j hj => (hcc j hj).trans (hp j hj)⟩)
    exact ⟨some a, len, cap, P, rfl, mkRs hl hm (slice_spot Tryz.underlying29 hv) hP⟩
set_option maxRecDepth 100000 in
/-- A sheet that is read. -/
theorem openSh {base : Nat} {v : Value} {d : DataW H} {p : List MemPlace} (hv : Value.okWide Tryz.prog W .any base 31 v) (h : DataW.Trod enc Tryz.prog W 0 (fun _ => true) true 31 v d p) (hz : ∀ q ∈ d.weights Tryz.prog 31, q ≤ reachBytes) :
    ∃ (oa ob oc od : Option Addr) (na ca nb cb nc cc nd cd : Nat) (Fa Fb Fc : Nat → Value) (La Lb Lc : Nat → Nat) (Ea Eb Ec : Nat → Nat → Nat) (P : Nat → Int × Int × Int × Int),
      v = .agg #[.slice oa na ca, .slice ob nb cb, .slice oc nc cc, .slice od nd cd] ∧ (na ≤ 10000000000000 ∧ nb ≤ 10000000000000 ∧ nc ≤ 10000000000000) ∧ ((∀ i, i < na → La i ≤ 4398046510976) ∧ (∀ i, i < nb → Lb i ≤ 4398046510976) ∧ ∀ i, i < nc → Lc i ≤ 4398046510976) ∧
      ((∀ i, i < na → ∀ j, j < La i → Ea i j < 115792089237316195423570985008687907853269984665640564039457584007913129639936) ∧ (∀ i, i < nb → ∀ j, j < Lb i → Eb i j < 115792089237316195423570985008687907853269984665640564039457584007913129639936) ∧ ∀ i, i < nc → ∀ j, j < Lc i → Ec i j < 115792089237316195423570985008687907853269984665640564039457584007913129639936) ∧
      ShQ W (.slice oa na ca) (.slice ob nb cb) (.slice oc nc cc) (.slice od nd cd) na Fa La Ea nb Fb Lb Eb nc Fc Lc Ec nd P := by
  obtain ⟨cs, rfl, hsz, hrow⟩ : ∃ cs, v = .agg cs ∧ cs.size = Tryz.prog.cellsOf 31 ∧ Row.okWide Tryz.prog W .any base 31 cs := by
    simpa [Value.okWide, Tryz.undSh] using hv
  rw [Tryz.cellsSh] at hsz
  obtain ⟨li⟩ := cs
  obtain ⟨c0, c1, c2, c3, rfl⟩ := list4c li hsz
  obtain ⟨fuel, hf0⟩ := h
  obtain ⟨xs, m, hx, hxl, hg⟩ := field_get Tryz.undSh [(28, 0), (28, 1), (28, 2), (29, 3)] (by kernel_rfl) hf0
  have g0 := hg 0 _ _ rfl; have g1 := hg 1 _ _ rfl; have g2 := hg 2 _ _ rfl; have g3 := hg 3 _ _ rfl
  rw [Tryz.cellsTE] at g0 g1 g2
  rw [Tryz.cellsSP] at g3
  obtain ⟨x0, x1, x2, x3, rfl⟩ := list4c xs hxl
  have hT : (Tryz.prog.fieldsOf 31).toList.map (·.type) = [28, 28, 28, 29] := by kernel_rfl
  have hd : d = .agg [x0.1, x1.1, x2.1, x3.1] := hx
  have hwe : ∀ q ∈ DataW.weightsEach Tryz.prog [28, 28, 28, 29] [x0.1, x1.1, x2.1, x3.1], q ≤ reachBytes := fun q hq => hz q (by
    rw [hd]
    unfold DataW.weights
    rw [Tryz.undSh]
    show q ∈ DataW.weightsEach Tryz.prog ((Tryz.prog.fieldsOf 31).toList.map (·.type)) _
    rw [hT]
    exact hq)
  have hok : ∀ (j : Nat) (t : TypeId) (c : Value), (Tryz.prog.cellTypes Tryz.prog.depth 31).bind (fun ts => ts[j % ts.length]?) = some t → (#[c0, c1, c2, c3] : Array Value)[j]? = some c → Cell.okWide Tryz.prog W .any base t c := by
    intro j t c hts' hc
    obtain ⟨ts, hts, _, hall⟩ := hrow
    obtain ⟨u, hu, hcell⟩ := hall j c hc
    rw [hts, Option.bind_some, hu] at hts'
    cases hts'
    exact hcell
  obtain ⟨oa, na, ca, Fa, La, Ea, rfl, hA, bA, lA, rA⟩ := openTb (hok 0 28 c0 (by kernel_rfl) rfl) g0 (fun q hq => hwe q (wEach (i := 0) (t := 28) (d := x0.1) rfl rfl q hq))
  obtain ⟨ob, nb, cb, Fb, Lb, Eb, rfl, hB, bB, lB, rB⟩ := openTb (hok 1 28 c1 (by kernel_rfl) rfl) g1 (fun q hq => hwe q (wEach (i := 1) (t := 28) (d := x1.1) rfl rfl q hq))
  obtain ⟨oc, nc, cc, Fc, Lc, Ec, rfl, hC, bC, lC, rC⟩ := openTb (hok 2 28 c2 (by kernel_rfl) rfl) g2 (fun q hq => hwe q (wEach (i := 2) (t := 28) (d := x2.1) rfl rfl q hq))
  obtain ⟨od, nd, cd, P, rfl, hP⟩ := openPs (hok 3 29 c3 (by kernel_rfl) rfl) g3
  exact ⟨oa, ob, oc, od, na, ca, nb, cb, nc, cc, nd, cd, Fa, Fb, Fc, La, Lb, Lc, Ea, Eb, Ec, P, rfl, ⟨bA, bB, bC⟩, ⟨lA, lB, lC⟩, ⟨rA, rB, rC⟩, hA, hB, hC, hP⟩
end
end Go.Proofs.YtgldibfpidmfhaaGreatDoor

/- A circuit that is handed in is read, its nodes' numbers with their ranges. No walk. -/
namespace Go.Proofs.YtgldibfpidmfhaaGreatDoor
open Go.ChangeShapes Go.WideShapes Go.ChangeAt Go.RowKit
open Go.WideMaps Go.WideElems
section
variable {H : Type} {enc : TypeId × Value → H} {W : World}
set_option maxRecDepth 100000 in
theorem readNb {base fuel : Nat} {sp : Nat → Bool} {held : Bool} {cs : List Value} {x : DataW H × List MemPlace} (hl : cs.length = 7) (h : DataW.trod enc Tryz.prog W base sp held fuel 56 cs = some x) : ∃ T : Int × Int × Int × Nat, (T.2.2.2 < 115792089237316195423570985008687907853269984665640564039457584007913129639936 ∧ rng T.2.1 ∧ rng T.2.2.1) ∧ ∀ j, j < 7 → cs[j]? = some (nC T j) := by
  obtain ⟨c0, c1, c2, c3, c4, c5, c6, rfl⟩ := list7c cs hl
  obtain ⟨xs, m, _, hxl, hg⟩ := field_get Tryz.undN [(3, 0), (3, 1), (3, 2), (50, 3)] (by kernel_rfl) h
  have g0 := hg 0 _ _ rfl; have g1 := hg 1 _ _ rfl; have g2 := hg 2 _ _ rfl; have g3 := hg 3 _ _ rfl
  rw [Tryz.cellsI] at g0 g1 g2
  rw [Tryz.cellsE] at g3
  have hx4 : xs.length = 4 := hxl
  obtain ⟨y0, k0⟩ := some_of g0 (by omega); obtain ⟨y1, k1⟩ := some_of g1 (by omega); obtain ⟨y2, k2⟩ := some_of g2 (by omega); obtain ⟨y3, k3⟩ := some_of g3 (by omega)
  obtain ⟨O, rfl, _⟩ := readI k0
  obtain ⟨A, rfl, hA⟩ := readI k1
  obtain ⟨B, rfl, hB⟩ := readI k2
  obtain ⟨V, hV, rfl, rfl, rfl, rfl⟩ := readE k3
  refine ⟨(O, A, B, V), ⟨hV, hA, hB⟩, fun j hj => ?_⟩
  have hj' : j = 0 ∨ j = 1 ∨ j = 2 ∨ j = 3 ∨ j = 4 ∨ j = 5 ∨ j = 6 := by omega
  rcases hj' with rfl | rfl | rfl | rfl | rfl | rfl | rfl <;> rfl
set_option maxRecDepth 100000 in
theorem openNb {base fuel : Nat} {v : Value} {x : DataW H × List MemPlace} (hv : Cell.okWide Tryz.prog W .any base 22 v) (h : DataW.trod enc Tryz.prog W 0 (fun _ => true) true fuel 22 [v] = some x) (hz : ∀ q ∈ x.1.weights Tryz.prog 22, q ≤ reachBytes) :
    ∃ (o : Option Addr) (n c : Nat) (T : Nat → Int × Int × Int × Nat), v = .slice o n c ∧ Rs W (.slice o n c) 7 n (fun i => nC (T i)) ∧ n ≤ 2513169434916 ∧ ∀ i, i < n → ((T i).2.2.2 < 115792089237316195423570985008687907853269984665640564039457584007913129639936 ∧ rng (T i).2.1 ∧ rng (T i).2.2.1) := by
  rcases open_rows Tryz.underlying22 Tryz.cellsN h with ⟨rfl, _⟩ | ⟨a, len, cap, es, rs, m, rfl, hx, hl, hm, hes, hel⟩
  · exact ⟨none, 0, 0, fun _ => (0, 0, 0, 0), rfl, Or.inl ⟨rfl, rfl⟩, by decide, fun i hi => by omega⟩
  · have hb := (w_head Tryz.underlying22 hx hz).1
    rw [Tryz.bytesN, hes] at hb
    obtain ⟨T, hT⟩ := pick (P := fun i (T : Int × Int × Int × Nat) => (T.2.2.2 < 115792089237316195423570985008687907853269984665640564039457584007913129639936 ∧ rng T.2.1 ∧ rng T.2.2.1) ∧ ∀ j, j < 7 → W.cell? ((a.add (i * 7)).add j) = some (nC T j)) (0, 0, 0, 0) (fun i hi => by
      obtain ⟨cs, y, hcl, hcc, ht, _⟩ := hel i hi
      obtain ⟨T, hb, hT⟩ := readNb hcl ht
      exact ⟨T, hb, fun j hj => (hcc j hj).trans (hT j hj)⟩)
    exact ⟨some a, len, cap, T, rfl, mkRs hl hm (slice_spot Tryz.underlying22 hv) (fun i hi => (hT i hi).2), by unfold reachBytes at hb; omega, fun i hi => (hT i hi).1⟩
set_option maxRecDepth 100000 in
/-- A circuit that is read. -/
theorem openCb {base : Nat} {v : Value} {d : DataW H} {p : List MemPlace} (hv : Value.okWide Tryz.prog W .any base 27 v) (h : DataW.Trod enc Tryz.prog W 0 (fun _ => true) true 27 v d p) (hz : ∀ q ∈ d.weights Tryz.prog 27, q ≤ reachBytes) :
    ∃ (F A I : Int) (oN oG oL oE : Option Addr) (n cN g cG l cL m cE : Nat) (f : Nat → Value × Value) (ni nt : Nat → Nat) (In Tb : Nat → Nat → Int) (T : Nat → Int × Int × Int × Nat) (G : Nat → Int) (E : Nat → Int × Int),
      v = .agg #[.int .i64 F, .int .i64 A, .int .i64 I, .slice oN n cN, .slice oG g cG, .slice oL l cL, .slice oE m cE] ∧ (n ≤ 2513169434916 ∧ g ≤ 17592186044416 ∧ l ≤ 2932031007402 ∧ m ≤ 8796093022208) ∧ (∀ i, i < l → ni i ≤ 17592186044416 ∧ nt i ≤ 17592186044416) ∧ Rng F A I m E ∧ (∀ i, i < n → ((T i).2.2.2 < 115792089237316195423570985008687907853269984665640564039457584007913129639936 ∧ rng (T i).2.1 ∧ rng (T i).2.2.1)) ∧
      CirQ W (.slice oN n cN) (.slice oG g cG) (.slice oL l cL) (.slice oE m cE) n T g G l f ni nt In Tb m E := by
  obtain ⟨cs, rfl, hsz, hrow⟩ : ∃ cs, v = .agg cs ∧ cs.size = Tryz.prog.cellsOf 27 ∧ Row.okWide Tryz.prog W .any base 27 cs := by
    simpa [Value.okWide, Tryz.undCi] using hv
  rw [Tryz.cellsCi] at hsz
  obtain ⟨li⟩ := cs
  obtain ⟨c0, c1, c2, c3, c4, c5, c6, rfl⟩ := list7c li hsz
  obtain ⟨fuel, hf0⟩ := h
  obtain ⟨xs, m, hx, hxl, hg⟩ := field_get Tryz.undCi [(3, 0), (3, 1), (3, 2), (22, 3), (23, 4), (24, 5), (25, 6)] (by kernel_rfl) hf0
  have g0 := hg 0 _ _ rfl; have g1 := hg 1 _ _ rfl; have g2 := hg 2 _ _ rfl; have g3 := hg 3 _ _ rfl; have g4 := hg 4 _ _ rfl; have g5 := hg 5 _ _ rfl; have g6 := hg 6 _ _ rfl
  rw [Tryz.cellsI] at g0 g1 g2
  rw [Tryz.cellsSN] at g3
  rw [Tryz.cellsSI] at g4
  rw [Tryz.cellsSL] at g5
  rw [Tryz.cellsSC] at g6
  obtain ⟨x0, x1, x2, x3, x4, x5, x6, rfl⟩ := list7c xs hxl
  have hT : (Tryz.prog.fieldsOf 27).toList.map (·.type) = [3, 3, 3, 22, 23, 24, 25] := by kernel_rfl
  have hd : d = .agg [x0.1, x1.1, x2.1, x3.1, x4.1, x5.1, x6.1] := hx
  have hwe : ∀ q ∈ DataW.weightsEach Tryz.prog [3, 3, 3, 22, 23, 24, 25] [x0.1, x1.1, x2.1, x3.1, x4.1, x5.1, x6.1], q ≤ reachBytes := fun q hq => hz q (by
    rw [hd]
    unfold DataW.weights
    rw [Tryz.undCi]
    show q ∈ DataW.weightsEach Tryz.prog ((Tryz.prog.fieldsOf 27).toList.map (·.type)) _
    rw [hT]
    exact hq)
  have hok : ∀ (j : Nat) (t : TypeId) (c : Value), (Tryz.prog.cellTypes Tryz.prog.depth 27).bind (fun ts => ts[j % ts.length]?) = some t → (#[c0, c1, c2, c3, c4, c5, c6] : Array Value)[j]? = some c → Cell.okWide Tryz.prog W .any base t c := by
    intro j t c hts' hc
    obtain ⟨ts, hts, _, hall⟩ := hrow
    obtain ⟨u, hu, hcell⟩ := hall j c hc
    rw [hts, Option.bind_some, hu] at hts'
    cases hts'
    exact hcell
  obtain ⟨F, rfl, hF⟩ := readI g0
  obtain ⟨A, rfl, hA⟩ := readI g1
  obtain ⟨I, rfl, hI⟩ := readI g2
  obtain ⟨oN, n, cN, T, rfl, hN, bN, tN⟩ := openNb (hok 3 22 c3 (by kernel_rfl) rfl) g3 (fun q hq => hwe q (wEach (i := 3) (t := 22) (d := x3.1) rfl rfl q hq))
  obtain ⟨oG, g, cG, G, rfl, hGs, bG⟩ := openGs (hok 4 23 c4 (by kernel_rfl) rfl) g4 (fun q hq => hwe q (wEach (i := 4) (t := 23) (d := x4.1) rfl rfl q hq))
  obtain ⟨oL, l, cL, f, ni, nt, In, Tb, rfl, hL, bL, bI⟩ := openLs (hok 5 24 c5 (by kernel_rfl) rfl) g5 (fun q hq => hwe q (wEach (i := 5) (t := 24) (d := x5.1) rfl rfl q hq))
  obtain ⟨oE, m', cE, E, rfl, hE, bE, rE⟩ := openCs (hok 6 25 c6 (by kernel_rfl) rfl) g6 (fun q hq => hwe q (wEach (i := 6) (t := 25) (d := x6.1) rfl rfl q hq))
  exact ⟨F, A, I, oN, oG, oL, oE, n, cN, g, cG, l, cL, m', cE, f, ni, nt, In, Tb, T, G, E, rfl, ⟨bN, bG, bL, bE⟩, bI, ⟨hF, hA, hI, rE⟩, tN, hN, hGs, hL, hE⟩
end
end Go.Proofs.YtgldibfpidmfhaaGreatDoor

