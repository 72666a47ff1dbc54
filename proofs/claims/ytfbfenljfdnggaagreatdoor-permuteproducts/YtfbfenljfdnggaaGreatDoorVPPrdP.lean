/- PermuteProducts: for every sort, size, columns, sigmas, beta, gamma and coins the call returns true: Products answers what the reference answers, and what is handed in is left as it was (sorts 2 and 3, and columns or sigmas of more than 20 lists, are passed by). Condition: the variables of packages field and domain read as the text lays them when the call begins (the card ties them). -/
import Derived.Test.YtfbfenljfdnggaaGreatDoorRows
import Derived.Test.YtfbfenljfdnggaaGreatDoorVDG
import Derived.Test.YtfbfenljfdnggaaGreatDoorVWJ
import Derived.Test.YtfbfenljfdnggaaGreatDoorVWM
import Derived.Test.YtfbfenljfdnggaaGreatDoorTie
import Derived.Test.YtfbfenljfdnggaaGreatDoorCards
import Derived.SevenTiedAt
import Derived.SizedLaws
import Derived.ProofKit
import Derived.Laws.IdiomArrays
namespace Go.Proofs.YtfbfenljfdnggaaGreatDoor
open Go.ChangeShapes Go.WideShapes Go.ChangeAt Go.RowKit
open Go.WideMaps Go.WideElems
open Go.ChangeMaps (setBlock shut_map_nil open_string shut_string keptBut_setBlock frozen?_setBlock heap_setBlock_same)
theorem Tryz.own : ownKnob Tryz.prog.godebug = none := by kernel_rfl
theorem Tryz.cellsU : Tryz.prog.cellsOf 23 = 1 := by kernel_rfl
theorem Tryz.cellsE : Tryz.prog.cellsOf 25 = 4 := by kernel_rfl
theorem list4 {α : Type} (l : List α) (h : (⟨l⟩ : Array α).size = 4) : ∃ a b c d, l = [a, b, c, d] := by
  match l, h with
  | [a, b, c, d], _ => exact ⟨a, b, c, d, rfl⟩
set_option maxRecDepth 100000 in
/-- An array of four words that is read is the words of a number below 2^256. -/
theorem openE {H : Type} {enc : TypeId × Value → H} {W : World} {base : Nat} {v : Value} {d : DataW H} {p : List MemPlace} (hv : Value.okWide Tryz.prog W .any base 25 v) (h : DataW.Trod enc Tryz.prog W 0 (fun _ => true) true 25 v d p) :
    ∃ x : Nat, x < 115792089237316195423570985008687907853269984665640564039457584007913129639936 ∧ v = .agg #[.int .u64 ((limb 0 (x) : Nat) : Int), .int .u64 ((limb 1 (x) : Nat) : Int), .int .u64 ((limb 2 (x) : Nat) : Int), .int .u64 ((limb 3 (x) : Nat) : Int)] ∧ p = [] ∧ d = .agg [.lit (.int .u64 ((limb 0 x : Nat) : Int)), .lit (.int .u64 ((limb 1 x : Nat) : Int)), .lit (.int .u64 ((limb 2 x : Nat) : Int)), .lit (.int .u64 ((limb 3 x : Nat) : Int))] := by
  obtain ⟨cs, rfl, hsz, _⟩ : ∃ cs, v = .agg cs ∧ cs.size = Tryz.prog.cellsOf 25 ∧ Row.okWide Tryz.prog W .any base 25 cs := by
    simpa [Value.okWide, Tryz.underlying25] using hv
  rw [Tryz.cellsE] at hsz
  obtain ⟨l⟩ := cs
  obtain ⟨c0, c1, c2, c3, rfl⟩ := list4 l hsz
  obtain ⟨fuel, hf⟩ := h
  obtain ⟨y0, y1, y2, y3, m, hx, hy0, hy1, hy2, hy3⟩ := trod_array4 Tryz.underlying25 Tryz.cellsU hf
  obtain ⟨x0, e0, rfl, w0⟩ := DataW.trod_int Tryz.underlying23 hy0
  obtain ⟨x1, e1, rfl, w1⟩ := DataW.trod_int Tryz.underlying23 hy1
  obtain ⟨x2, e2, rfl, w2⟩ := DataW.trod_int Tryz.underlying23 hy2
  obtain ⟨x3, e3, rfl, w3⟩ := DataW.trod_int Tryz.underlying23 hy3
  simp at e0 e1 e2 e3
  subst e0 e1 e2 e3
  simp only [Prod.mk.injEq] at hx
  obtain ⟨rfl, rfl⟩ := hx
  have b0 := bounds_u64' w0; have b1 := bounds_u64' w1; have b2 := bounds_u64' w2; have b3 := bounds_u64' w3
  obtain ⟨n0, rfl⟩ := Int.eq_ofNat_of_zero_le b0.1
  obtain ⟨n1, rfl⟩ := Int.eq_ofNat_of_zero_le b1.1
  obtain ⟨n2, rfl⟩ := Int.eq_ofNat_of_zero_le b2.1
  obtain ⟨n3, rfl⟩ := Int.eq_ofNat_of_zero_le b3.1
  have g := limbs_of n0 n1 n2 n3 (by omega) (by omega) (by omega) (by omega) _ rfl
  refine ⟨_, g.2.2.2.2, ?_, rfl, ?_⟩
  · rw [← g.1, ← g.2.1, ← g.2.2.1, ← g.2.2.2.1]
  · rw [← g.1, ← g.2.1, ← g.2.2.1, ← g.2.2.2.1]
set_option maxRecDepth 100000 in
theorem readE {H : Type} {enc : TypeId × Value → H} (W : World) (x : Nat) (sp : Nat → Bool) : DataW.Trod enc Tryz.prog W 0 sp true 25 (.agg #[.int .u64 ((limb 0 (x) : Nat) : Int), .int .u64 ((limb 1 (x) : Nat) : Int), .int .u64 ((limb 2 (x) : Nat) : Int), .int .u64 ((limb 3 (x) : Nat) : Int)]) (DataW.agg [.lit (.int .u64 ((limb 0 x : Nat) : Int)), .lit (.int .u64 ((limb 1 x : Nat) : Int)), .lit (.int .u64 ((limb 2 x : Nat) : Int)), .lit (.int .u64 ((limb 3 x : Nat) : Int))]) [] := by
  have hw : ∀ i, (Lit.int .u64 ((limb i x : Nat) : Int)).wf = true := fun i => wf_limb (limb i x) (limb_lt i x)
  exact ⟨2, by simp [DataW.trod, Value.cells, Tryz.underlying25, Tryz.underlying23, Tryz.cellsE, Tryz.cellsU, hw, show List.range 4 = [0, 1, 2, 3] from rfl]⟩
theorem Tryz.laidOut : laidOutB Tryz.prog = true := by kernel_rfl
set_option maxRecDepth 100000 in
/-- A slice of elements that is read. -/
theorem openL {H : Type} {enc : TypeId × Value → H} {W : World} {base : Nat} {v : Value} {d : DataW H} {p : List MemPlace} (hv : Value.okWide Tryz.prog W .any base 26 v) (h : DataW.Trod enc Tryz.prog W 0 (fun _ => true) true 26 v d p) :
    ∃ (n : Nat) (f : Nat → Nat), Es W v n f ∧ ∀ i, i < n → f i < 115792089237316195423570985008687907853269984665640564039457584007913129639936 := by
  obtain ⟨a0, len, cap, rfl⟩ := okWide_slice Tryz.underlying26 hv
  obtain ⟨fuel, hf⟩ := h
  rcases DataW.trod_slice Tryz.underlying26 hf with ⟨hcs, hx⟩ | ⟨a, len', cap', elems, rest, m, _, hcs, hx, _, hl, hm, hlen, hel, _, _⟩
  · simp [Value.cells] at hcs
    obtain ⟨rfl, rfl, rfl⟩ := hcs
    exact ⟨0, fun _ => 0, Or.inl ⟨rfl, rfl⟩, fun i hi => by omega⟩
  · simp [Value.cells] at hcs
    obtain ⟨rfl, rfl, rfl⟩ := hcs
    have hb : a.block < W.heap.size ∧ a.spot = none := by
      have h1 : Value.okWide Tryz.prog W .any base 26 (.slice (some a) len cap) := hv
      simp only [Value.okWide, Cell.okWide, Cell.ok, Tryz.underlying26] at h1
      obtain ⟨_, _, _, hsp, row, cells, hs, _⟩ := h1
      refine ⟨?_, hsp⟩
      rcases Nat.lt_or_ge a.block W.heap.size with h | h
      · exact h
      · simp [World.shape?, Array.getElem?_eq_none h] at hs
    obtain ⟨hbl, hsp⟩ := hb
    obtain ⟨b, o, sp⟩ := a
    dsimp only at hsp hbl
    subst hsp
    have each : ∀ i, i < len → ∃ x : Nat, x < 115792089237316195423570985008687907853269984665640564039457584007913129639936 ∧ ∀ j, j < 4 → W.cell? ⟨b, o + i * 4 + j, none⟩ = some (.int .u64 ((limb j x : Nat) : Int)) := by
      intro i hi
      have he := hel i hi
      rw [Tryz.cellsE, List.getElem?_eq_getElem (by omega)] at he
      obtain ⟨cs, hcs, ht⟩ := Option.bind_eq_some_iff.1 he
      obtain ⟨_, hcl, hcc⟩ := World.cells?_some hcs
      obtain ⟨c0, c1, c2, c3, rfl⟩ := list4 cs (by simpa using hcl)
      obtain ⟨y0, y1, y2, y3, k, _, hy0, hy1, hy2, hy3⟩ := trod_array4 Tryz.underlying25 Tryz.cellsU ht
      obtain ⟨x0, e0, _, w0⟩ := DataW.trod_int Tryz.underlying23 hy0
      obtain ⟨x1, e1, _, w1⟩ := DataW.trod_int Tryz.underlying23 hy1
      obtain ⟨x2, e2, _, w2⟩ := DataW.trod_int Tryz.underlying23 hy2
      obtain ⟨x3, e3, _, w3⟩ := DataW.trod_int Tryz.underlying23 hy3
      simp at e0 e1 e2 e3
      subst e0 e1 e2 e3
      have b0 := bounds_u64' w0; have b1 := bounds_u64' w1; have b2 := bounds_u64' w2; have b3 := bounds_u64' w3
      obtain ⟨n0, rfl⟩ := Int.eq_ofNat_of_zero_le b0.1
      obtain ⟨n1, rfl⟩ := Int.eq_ofNat_of_zero_le b1.1
      obtain ⟨n2, rfl⟩ := Int.eq_ofNat_of_zero_le b2.1
      obtain ⟨n3, rfl⟩ := Int.eq_ofNat_of_zero_le b3.1
      have g := limbs_of n0 n1 n2 n3 (by omega) (by omega) (by omega) (by omega) _ rfl
      refine ⟨_, g.2.2.2.2, fun j hj => ?_⟩
      have hc := hcc j hj
      have hadd : ((⟨b, o, none⟩ : Addr).add (i * 4)).add j = ⟨b, o + i * 4 + j, none⟩ := by rw [add_plain, add_plain]
      rw [hadd] at hc
      rw [hc]
      have hj4 : j = 0 ∨ j = 1 ∨ j = 2 ∨ j = 3 := by omega
      rcases hj4 with rfl | rfl | rfl | rfl
      · rw [← g.1]; rfl
      · rw [← g.2.1]; rfl
      · rw [← g.2.2.1]; rfl
      · rw [← g.2.2.2.1]; rfl
    refine ⟨len, fun i => if h : i < len then (each i h).choose else 0, Or.inr ⟨b, o, cap, rfl, hl, hm, hbl, fun i hi j hj => ?_⟩, fun i hi => ?_⟩
    · dsimp only
      rw [dif_pos hi]
      exact (each i hi).choose_spec.2 j hj
    · dsimp only
      rw [dif_pos hi]
      exact (each i hi).choose_spec.1
theorem Tryz.bytesEl : Tryz.prog.bytesOf 25 = 32 := by kernel_rfl
set_option maxRecDepth 100000 in
/-- A slice of elements that is read, with its size. -/
theorem openV {H : Type} {enc : TypeId × Value → H} {W : World} {base : Nat} {v : Value} {d : DataW H} {p : List MemPlace} (hv : Value.okWide Tryz.prog W .any base 26 v) (h : DataW.Trod enc Tryz.prog W 0 (fun _ => true) true 26 v d p)
    (hz : ∀ el sp, d = .slice el sp → (el.length + sp.length) * Tryz.prog.bytesOf 25 ≤ reachBytes) :
    ∃ (n : Nat) (f : Nat → Nat), Es W v n f ∧ (∀ i, i < n → f i < 115792089237316195423570985008687907853269984665640564039457584007913129639936) ∧ n ≤ 4398046510976 := by
  obtain ⟨n, f, hR, hT⟩ := openL hv h
  refine ⟨n, f, hR, hT, ?_⟩
  obtain ⟨fuel, hf⟩ := h
  rcases DataW.trod_slice Tryz.underlying26 hf with ⟨hcs, _⟩ | ⟨a, len', cap', elems, rest, m, _, hcs, hx, _, hl, hm, hlen, _⟩
  · rcases hR with ⟨_, h0⟩ | ⟨b, o, c, rfl, _⟩
    · omega
    · simp [Value.cells] at hcs
  · have hr := hz _ _ (congrArg Prod.fst hx)
    rw [Tryz.bytesEl] at hr
    simp only [List.length_map, reachBytes] at hr
    rcases hR with ⟨rfl, h0⟩ | ⟨b, o, c, rfl, _⟩
    · omega
    · simp [Value.cells] at hcs
      omega
theorem Tryz.bytesE : Tryz.prog.bytesOf 25 = 32 := by kernel_rfl
theorem Tryz.bytesSE : Tryz.prog.bytesOf 26 = 24 := by kernel_rfl
theorem Tryz.cellsSE : Tryz.prog.cellsOf 26 = 1 := by kernel_rfl
section
variable {H : Type} {enc : TypeId × Value → H} {W : World}
set_option maxRecDepth 100000 in
theorem readEc {base fuel : Nat} {sp : Nat → Bool} {held : Bool} {c0 c1 c2 c3 : Value} {x : DataW H × List MemPlace} (h : DataW.trod enc Tryz.prog W base sp held fuel 25 [c0, c1, c2, c3] = some x) :
    ∃ x : Nat, x < 115792089237316195423570985008687907853269984665640564039457584007913129639936 ∧ c0 = .int .u64 ((limb 0 x : Nat) : Int) ∧ c1 = .int .u64 ((limb 1 x : Nat) : Int) ∧ c2 = .int .u64 ((limb 2 x : Nat) : Int) ∧ c3 = .int .u64 ((limb 3 x : Nat) : Int) := by
  obtain ⟨y0, y1, y2, y3, k, _, hy0, hy1, hy2, hy3⟩ := trod_array4 Tryz.underlying25 Tryz.cellsU h
  obtain ⟨x0, e0, _, w0⟩ := DataW.trod_int Tryz.underlying23 hy0
  obtain ⟨x1, e1, _, w1⟩ := DataW.trod_int Tryz.underlying23 hy1
  obtain ⟨x2, e2, _, w2⟩ := DataW.trod_int Tryz.underlying23 hy2
  obtain ⟨x3, e3, _, w3⟩ := DataW.trod_int Tryz.underlying23 hy3
  simp at e0 e1 e2 e3
  subst e0 e1 e2 e3
  have b0 := bounds_u64' w0; have b1 := bounds_u64' w1; have b2 := bounds_u64' w2; have b3 := bounds_u64' w3
  obtain ⟨n0, rfl⟩ := Int.eq_ofNat_of_zero_le b0.1
  obtain ⟨n1, rfl⟩ := Int.eq_ofNat_of_zero_le b1.1
  obtain ⟨n2, rfl⟩ := Int.eq_ofNat_of_zero_le b2.1
  obtain ⟨n3, rfl⟩ := Int.eq_ofNat_of_zero_le b3.1
  have g := limbs_of n0 n1 n2 n3 (by omega) (by omega) (by omega) (by omega) _ rfl
  refine ⟨_, g.2.2.2.2, ?_, ?_, ?_, ?_⟩
  · rw [← g.1]
  · rw [← g.2.1]
  · rw [← g.2.2.1]
  · rw [← g.2.2.2.1]
theorem list1c {α : Type} (l : List α) (h : l.length = 1) : ∃ a, l = [a] := by
  match l, h with
  | [a], _ => exact ⟨a, rfl⟩
/-- A slice that is read: its elements' cells. -/
theorem open_rows {base fuel s : Nat} {t e : TypeId} {v : Value} {x : DataW H × List MemPlace} (ht : Tryz.prog.underlying t = some (.slice e)) (hce : Tryz.prog.cellsOf e = s) (h : DataW.trod enc Tryz.prog W base (fun _ => true) true fuel t [v] = some x) :
    (v = .slice none 0 0 ∧ x.1 = .nil) ∨ ∃ (a : Addr) (len cap : Nat) (es rs : List (DataW H)) (m : Nat), v = .slice (some a) len cap ∧ x.1 = .slice es rs ∧ len ≤ cap ∧ cap ≤ maxLen ∧ es.length = len ∧
      ∀ i, i < len → ∃ (cs : List Value) (y : DataW H × List MemPlace), cs.length = s ∧ (∀ j, j < s → W.cell? ((a.add (i * s)).add j) = cs[j]?) ∧ DataW.trod enc Tryz.prog W base (fun _ => true) true m e cs = some y ∧ es[i]? = some y.1 := by
  rcases DataW.trod_slice ht h with ⟨hcs, hx⟩ | ⟨a, len, cap, elems, rest, m, _, hcs, hx, _, hl, hm, hlen, hel, _, _⟩
  · simp at hcs
    exact Or.inl ⟨hcs, by rw [hx]⟩
  · simp at hcs
    refine Or.inr ⟨a, len, cap, elems.map (·.1), rest.map (·.1), m, hcs, by rw [hx], hl, hm, by simpa using hlen, fun i hi => ?_⟩
    have he := hel i hi
    rw [hce, List.getElem?_eq_getElem (by omega)] at he
    obtain ⟨cs, hcs, ht⟩ := Option.bind_eq_some_iff.1 he
    obtain ⟨_, hcl, hcc⟩ := World.cells?_some hcs
    exact ⟨cs, _, hcl, hcc, ht, by rw [List.getElem?_map, List.getElem?_eq_getElem (by omega)]; rfl⟩
theorem cell_spot {a : Addr} {v : Value} (h : W.cell? a = some v) : a.spot = none ∧ a.block < W.heap.size := by
  unfold World.cell? at h
  split at h
  · rename_i hb
    refine ⟨?_, (Array.getElem?_eq_some_iff.1 hb).1⟩
    cases hs : a.spot with
    | none => rfl
    | some k => rw [hs] at h; simp at h
  · cases h
set_option maxRecDepth 100000 in
/-- A slice's place, where the slice stands in a value that is handed in. -/
theorem slice_spot {base : Nat} {t e : TypeId} {a : Addr} {len cap : Nat} (ht : Tryz.prog.underlying t = some (.slice e)) (hv : Cell.okWide Tryz.prog W .any base t (.slice (some a) len cap)) : a.spot = none ∧ a.block < W.heap.size := by
  have h1 := hv
  simp only [Cell.okWide, Cell.ok, ht] at h1
  obtain ⟨_, _, _, hsp, row, cells, hs, _⟩ := h1
  refine ⟨hsp, ?_⟩
  rcases Nat.lt_or_ge a.block W.heap.size with h | h
  · exact h
  · simp [World.shape?, Array.getElem?_eq_none h] at hs
theorem wAll {e : TypeId} : ∀ {es : List (DataW H)} {i : Nat} {d : DataW H}, es[i]? = some d → ∀ q ∈ d.weights Tryz.prog e, q ∈ DataW.weightsAll Tryz.prog e es
  | [], i, d, h => by simp at h
  | c :: r, 0, d, h => fun q hq => by
    simp at h
    subst h
    simp [DataW.weightsAll, hq]
  | c :: r, i + 1, d, h => fun q hq => by
    have h1 := wAll (es := r) (i := i) (d := d) (by simpa using h) q hq
    simp [DataW.weightsAll, h1]
theorem wEach : ∀ {ts : List TypeId} {ds : List (DataW H)} {i : Nat} {t : TypeId} {d : DataW H}, ts[i]? = some t → ds[i]? = some d → ∀ q ∈ d.weights Tryz.prog t, q ∈ DataW.weightsEach Tryz.prog ts ds
  | [], ds, i, t, d, h, _ => by simp at h
  | t0 :: ts, [], i, t, d, _, h => by simp at h
  | t0 :: ts, d0 :: ds, 0, t, d, h, h' => fun q hq => by
    simp at h h'
    subst h h'
    simp [DataW.weightsEach, hq]
  | t0 :: ts, d0 :: ds, i + 1, t, d, h, h' => fun q hq => by
    have h1 := wEach (ts := ts) (ds := ds) (i := i) (t := t) (d := d) (by simpa using h) (by simpa using h') q hq
    simp [DataW.weightsEach, h1]
theorem pick {α : Type} {P : Nat → α → Prop} {len : Nat} (d : α) (h : ∀ i, i < len → ∃ a, P i a) : ∃ F : Nat → α, ∀ i, i < len → P i (F i) :=
  ⟨fun i => if h' : i < len then (h i h').choose else d, fun i hi => by
    dsimp only
    rw [dif_pos hi]
    exact (h i hi).choose_spec⟩
theorem mkRs {a : Addr} {len cap s : Nat} {F : Nat → Nat → Value} (hl : len ≤ cap) (hm : cap ≤ maxLen) (hsp : a.spot = none ∧ a.block < W.heap.size) (hc : ∀ i, i < len → ∀ j, j < s → W.cell? ((a.add (i * s)).add j) = some (F i j)) : Rs W (.slice (some a) len cap) s len F := by
  obtain ⟨b, o, sp⟩ := a
  have hsp' : sp = none := hsp.1
  subst hsp'
  refine Or.inr ⟨b, o, cap, rfl, hl, hm, hsp.2, fun i hi j hj => ?_⟩
  have h := hc i hi j hj
  rw [add_plain, add_plain] at h
  exact h
theorem w_head {t e : TypeId} {es rs : List (DataW H)} {d : DataW H} (ht : Tryz.prog.underlying t = some (.slice e)) (hd : d = .slice es rs) (hz : ∀ q ∈ d.weights Tryz.prog t, q ≤ reachBytes) : (es.length + rs.length) * Tryz.prog.bytesOf e ≤ reachBytes ∧ ∀ (i : Nat) (y : DataW H), es[i]? = some y → ∀ q ∈ y.weights Tryz.prog e, q ≤ reachBytes := by
  subst hd
  refine ⟨hz _ (by simp [DataW.weights, ht]), fun i y hi q hq => hz q ?_⟩
  have h := wAll (e := e) hi q hq
  simp [DataW.weights, ht, h]
theorem list4c {α : Type} (l : List α) (h : l.length = 4) : ∃ a b c d, l = [a, b, c, d] := by
  match l, h with
  | [a, b, c, d], _ => exact ⟨a, b, c, d, rfl⟩
/-- A slice of elements that is read. -/
theorem openEz {fuel : Nat} {v : Value} {x : DataW H × List MemPlace} (h : DataW.trod enc Tryz.prog W 0 (fun _ => true) true fuel 26 [v] = some x) (hz : ∀ q ∈ x.1.weights Tryz.prog 26, q ≤ reachBytes) :
    ∃ (n : Nat) (f : Nat → Nat), Ez W v n f ∧ n ≤ 4398046510976 ∧ ∀ i, i < n → f i < 115792089237316195423570985008687907853269984665640564039457584007913129639936 := by
  rcases open_rows Tryz.underlying26 Tryz.cellsE h with ⟨rfl, _⟩ | ⟨a, len, cap, es, rs, m, rfl, hx, hl, hm, hes, hel⟩
  · exact ⟨0, fun _ => 0, Or.inl (Or.inl ⟨rfl, rfl⟩), by decide, fun i hi => by omega⟩
  · have hb := (w_head Tryz.underlying26 hx hz).1
    rw [Tryz.bytesE, hes] at hb
    have hb' : len ≤ 4398046510976 := by unfold reachBytes at hb; omega
    rcases Nat.eq_zero_or_pos len with h0 | h0
    · subst h0
      exact ⟨0, fun _ => 0, Or.inr ⟨rfl, _, _, rfl⟩, by decide, fun i hi => by omega⟩
    · obtain ⟨f, hf⟩ := pick (P := fun i (z : Nat) => (∀ j, j < 4 → W.cell? ((a.add (i * 4)).add j) = some (.int .u64 ((limb j z : Nat) : Int))) ∧ z < 115792089237316195423570985008687907853269984665640564039457584007913129639936) 0 (fun i hi => by
        obtain ⟨cs, y, hcl, hcc, ht, _⟩ := hel i hi
        obtain ⟨c0, c1, c2, c3, rfl⟩ := list4c cs hcl
        obtain ⟨z, hz, rfl, rfl, rfl, rfl⟩ := readEc ht
        refine ⟨z, fun j hj => (hcc j hj).trans ?_, hz⟩
        have hj' : j = 0 ∨ j = 1 ∨ j = 2 ∨ j = 3 := by omega
        rcases hj' with rfl | rfl | rfl | rfl <;> rfl)
      have hsp := cell_spot ((hf 0 h0).1 0 (by decide))
      have hsp2 : a.spot = none ∧ a.block < W.heap.size := by
        obtain ⟨b, o, sp⟩ := a
        cases sp with
        | none => exact ⟨rfl, by have := hsp.2; rw [add_plain, add_plain] at this; exact this⟩
        | some k =>
          exfalso
          have h1 := hsp.1
          simp [Addr.add] at h1
      exact ⟨len, f, Or.inl (mkRs hl hm hsp2 (fun i hi => (hf i hi).1)), hb', fun i hi => (hf i hi).2⟩
set_option maxRecDepth 100000 in
/-- A table that is read. -/
theorem openTb {base fuel : Nat} {v : Value} {x : DataW H × List MemPlace} (hv : Cell.okWide Tryz.prog W .any base 22 v) (h : DataW.trod enc Tryz.prog W 0 (fun _ => true) true fuel 22 [v] = some x) (hz : ∀ q ∈ x.1.weights Tryz.prog 22, q ≤ reachBytes) :
    ∃ (o : Option Addr) (n c : Nat) (F : Nat → Value) (L : Nat → Nat) (E : Nat → Nat → Nat), v = .slice o n c ∧ Tab W (.slice o n c) n F L E ∧ n ≤ 10000000000000 ∧ (∀ i, i < n → L i ≤ 4398046510976) ∧ ∀ i, i < n → ∀ j, j < L i → E i j < 115792089237316195423570985008687907853269984665640564039457584007913129639936 := by
  rcases open_rows Tryz.underlying22 Tryz.cellsSE h with ⟨rfl, _⟩ | ⟨a, len, cap, es, rs, m, rfl, hx, hl, hm, hes, hel⟩
  · exact ⟨none, 0, 0, fun _ => undef, fun _ => 0, fun _ _ => 0, rfl, ⟨Or.inl ⟨rfl, rfl⟩, fun i hi => by omega⟩, by decide, fun i hi => by omega, fun i hi => by omega⟩
  · have hw := w_head Tryz.underlying22 hx hz
    have hb := hw.1
    rw [Tryz.bytesSE, hes] at hb
    obtain ⟨D, hD⟩ := pick (P := fun i (D : Value × Nat × (Nat → Nat)) => (∀ j, j < 1 → W.cell? ((a.add (i * 1)).add j) = some D.1) ∧ Ez W D.1 D.2.1 D.2.2 ∧ D.2.1 ≤ 4398046510976 ∧ ∀ j, j < D.2.1 → D.2.2 j < 115792089237316195423570985008687907853269984665640564039457584007913129639936) (undef, 0, fun _ => 0) (fun i hi => by
      obtain ⟨cs, y, hcl, hcc, ht, hy⟩ := hel i hi
      obtain ⟨c, rfl⟩ := list1c cs hcl
      obtain ⟨n1, f1, z1, b1, r1⟩ := openEz ht (hw.2 i y.1 hy)
      refine ⟨(c, n1, f1), fun j hj => (hcc j hj).trans ?_, z1, b1, r1⟩
      have : j = 0 := by omega
      subst this
      rfl)
    exact ⟨some a, len, cap, fun i => (D i).1, fun i => (D i).2.1, fun i => (D i).2.2, rfl, ⟨mkRs hl hm (slice_spot Tryz.underlying22 hv) (fun i hi => (hD i hi).1), fun i hi => (hD i hi).2.1⟩, by unfold reachBytes at hb; omega, fun i hi => (hD i hi).2.2.1, fun i hi => (hD i hi).2.2.2⟩
set_option maxRecDepth 100000 in
/-- A table that is read, as an argument. -/
theorem openT {base : Nat} {v : Value} {d : DataW H} {p : List MemPlace} (hv : Value.okWide Tryz.prog W .any base 22 v) (h : DataW.Trod enc Tryz.prog W 0 (fun _ => true) true 22 v d p) (hz : ∀ q ∈ d.weights Tryz.prog 22, q ≤ reachBytes) :
    ∃ (o : Option Addr) (n c : Nat) (F : Nat → Value) (L : Nat → Nat) (E : Nat → Nat → Nat), v = .slice o n c ∧ Tab W (.slice o n c) n F L E ∧ n ≤ 10000000000000 ∧ (∀ i, i < n → L i ≤ 4398046510976) ∧ ∀ r i, i < n → E i r < 115792089237316195423570985008687907853269984665640564039457584007913129639936 := by
  obtain ⟨a0, len, cap, rfl⟩ := okWide_slice Tryz.underlying22 hv
  obtain ⟨fuel, hf⟩ := h
  obtain ⟨o, n, c, F, L, E, hv2, hT, hn, hL, hE⟩ := openTb (x := (d, p)) (by simpa [Value.okWide, Tryz.underlying22] using hv) hf hz
  refine ⟨o, n, c, F, L, fun i r => if r < L i then E i r else 0, hv2, ⟨hT.1, fun i hi => ?_⟩, hn, hL, fun r i hi => ?_⟩
  · have hg : ∀ r, r < L i → E i r = (if r < L i then E i r else 0) := fun r hr => (if_pos hr).symm
    rcases hT.2 i hi with h | h
    · refine Or.inl ?_
      rcases h with h | ⟨b, oo, cc, e, h1, h2, h3, h4⟩
      · exact Or.inl h
      · exact Or.inr ⟨b, oo, cc, e, h1, h2, h3, fun r hr j hj => by dsimp only; rw [← hg r hr]; exact h4 r hr j hj⟩
    · exact Or.inr h
  · dsimp only
    split
    · exact hE i hi r ‹_›
    · decide
end
section
variable {H : Type} {enc : TypeId × Value → H} {P : Program} {w : World} {base : Nat} {spare : Nat → Bool} {held : Bool}
theorem trodAll_n5 {t0 t1 t2 t3 t4 : TypeId} {args : Array Value} {ds : List (DataW H)} {ps : List MemPlace} (h : DataW.TrodAll enc P w base spare held [t0, t1, t2, t3, t4] args.toList ds ps) :
    ∃ v0 v1 v2 v3 v4 d0 d1 d2 d3 d4 p0 p1 p2 p3 p4, args = #[v0, v1, v2, v3, v4] ∧ ds = [d0, d1, d2, d3, d4] ∧ ps = (p0 ++ (p1 ++ (p2 ++ (p3 ++ p4)))) ∧ DataW.Trod enc P w base spare held t0 v0 d0 p0 ∧ DataW.Trod enc P w base spare held t1 v1 d1 p1 ∧ DataW.Trod enc P w base spare held t2 v2 d2 p2 ∧ DataW.Trod enc P w base spare held t3 v3 d3 p3 ∧ DataW.Trod enc P w base spare held t4 v4 d4 p4 := by
  obtain ⟨v0, vs0, d0, ds0, p0, q0, hargs, rfl, rfl, hd0, hr0⟩ := trodAll_cons h
  obtain ⟨v1, vs1, d1, ds1, p1, q1, rfl, rfl, rfl, hd1, hr1⟩ := trodAll_cons hr0
  obtain ⟨v2, vs2, d2, ds2, p2, q2, rfl, rfl, rfl, hd2, hr2⟩ := trodAll_cons hr1
  obtain ⟨v3, vs3, d3, ds3, p3, q3, rfl, rfl, rfl, hd3, hr3⟩ := trodAll_cons hr2
  obtain ⟨v4, vs4, d4, ds4, p4, q4, rfl, rfl, rfl, hd4, hr4⟩ := trodAll_cons hr3
  obtain ⟨rfl, rfl, rfl⟩ := trodAll_nil hr4
  exact ⟨v0, v1, v2, v3, v4, d0, d1, d2, d3, d4, p0, p1, p2, p3, p4, by cases args; simp_all, rfl, by simp, hd0, hd1, hd2, hd3, hd4⟩
theorem trodAll_m5 {t0 t1 t2 t3 t4 : TypeId} {v0 v1 v2 v3 v4 : Value} {d0 d1 d2 d3 d4 : DataW H} {p0 p1 p2 p3 p4 : List MemPlace} (h0 : DataW.Trod enc P w base spare held t0 v0 d0 p0) (h1 : DataW.Trod enc P w base spare held t1 v1 d1 p1) (h2 : DataW.Trod enc P w base spare held t2 v2 d2 p2) (h3 : DataW.Trod enc P w base spare held t3 v3 d3 p3) (h4 : DataW.Trod enc P w base spare held t4 v4 d4 p4) : DataW.TrodAll enc P w base spare held [t0, t1, t2, t3, t4] [v0, v1, v2, v3, v4] [d0, d1, d2, d3, d4] (p0 ++ (p1 ++ (p2 ++ (p3 ++ p4)))) := ⟨p0, (p1 ++ (p2 ++ (p3 ++ p4))), h0, trodAll_mk4 h1 h2 h3 h4, rfl⟩
end
section
variable {H : Type} {enc : TypeId × Value → H} {P : Program} {w : World} {base : Nat} {spare : Nat → Bool} {held : Bool}
theorem trodAll_n6 {t0 t1 t2 t3 t4 t5 : TypeId} {args : Array Value} {ds : List (DataW H)} {ps : List MemPlace} (h : DataW.TrodAll enc P w base spare held [t0, t1, t2, t3, t4, t5] args.toList ds ps) :
    ∃ v0 v1 v2 v3 v4 v5 d0 d1 d2 d3 d4 d5 p0 p1 p2 p3 p4 p5, args = #[v0, v1, v2, v3, v4, v5] ∧ ds = [d0, d1, d2, d3, d4, d5] ∧ ps = (p0 ++ (p1 ++ (p2 ++ (p3 ++ (p4 ++ p5))))) ∧ DataW.Trod enc P w base spare held t0 v0 d0 p0 ∧ DataW.Trod enc P w base spare held t1 v1 d1 p1 ∧ DataW.Trod enc P w base spare held t2 v2 d2 p2 ∧ DataW.Trod enc P w base spare held t3 v3 d3 p3 ∧ DataW.Trod enc P w base spare held t4 v4 d4 p4 ∧ DataW.Trod enc P w base spare held t5 v5 d5 p5 := by
  obtain ⟨v0, vs0, d0, ds0, p0, q0, hargs, rfl, rfl, hd0, hr0⟩ := trodAll_cons h
  obtain ⟨v1, vs1, d1, ds1, p1, q1, rfl, rfl, rfl, hd1, hr1⟩ := trodAll_cons hr0
  obtain ⟨v2, vs2, d2, ds2, p2, q2, rfl, rfl, rfl, hd2, hr2⟩ := trodAll_cons hr1
  obtain ⟨v3, vs3, d3, ds3, p3, q3, rfl, rfl, rfl, hd3, hr3⟩ := trodAll_cons hr2
  obtain ⟨v4, vs4, d4, ds4, p4, q4, rfl, rfl, rfl, hd4, hr4⟩ := trodAll_cons hr3
  obtain ⟨v5, vs5, d5, ds5, p5, q5, rfl, rfl, rfl, hd5, hr5⟩ := trodAll_cons hr4
  obtain ⟨rfl, rfl, rfl⟩ := trodAll_nil hr5
  exact ⟨v0, v1, v2, v3, v4, v5, d0, d1, d2, d3, d4, d5, p0, p1, p2, p3, p4, p5, by cases args; simp_all, rfl, by simp, hd0, hd1, hd2, hd3, hd4, hd5⟩
theorem trodAll_m6 {t0 t1 t2 t3 t4 t5 : TypeId} {v0 v1 v2 v3 v4 v5 : Value} {d0 d1 d2 d3 d4 d5 : DataW H} {p0 p1 p2 p3 p4 p5 : List MemPlace} (h0 : DataW.Trod enc P w base spare held t0 v0 d0 p0) (h1 : DataW.Trod enc P w base spare held t1 v1 d1 p1) (h2 : DataW.Trod enc P w base spare held t2 v2 d2 p2) (h3 : DataW.Trod enc P w base spare held t3 v3 d3 p3) (h4 : DataW.Trod enc P w base spare held t4 v4 d4 p4) (h5 : DataW.Trod enc P w base spare held t5 v5 d5 p5) : DataW.TrodAll enc P w base spare held [t0, t1, t2, t3, t4, t5] [v0, v1, v2, v3, v4, v5] [d0, d1, d2, d3, d4, d5] (p0 ++ (p1 ++ (p2 ++ (p3 ++ (p4 ++ p5))))) := ⟨p0, (p1 ++ (p2 ++ (p3 ++ (p4 ++ p5)))), h0, trodAll_m5 h1 h2 h3 h4 h5, rfl⟩
end
section
variable {H : Type} {enc : TypeId × Value → H} {P : Program} {w : World} {base : Nat} {spare : Nat → Bool} {held : Bool}
theorem trodAll_n7 {t0 t1 t2 t3 t4 t5 t6 : TypeId} {args : Array Value} {ds : List (DataW H)} {ps : List MemPlace} (h : DataW.TrodAll enc P w base spare held [t0, t1, t2, t3, t4, t5, t6] args.toList ds ps) :
    ∃ v0 v1 v2 v3 v4 v5 v6 d0 d1 d2 d3 d4 d5 d6 p0 p1 p2 p3 p4 p5 p6, args = #[v0, v1, v2, v3, v4, v5, v6] ∧ ds = [d0, d1, d2, d3, d4, d5, d6] ∧ ps = (p0 ++ (p1 ++ (p2 ++ (p3 ++ (p4 ++ (p5 ++ p6)))))) ∧ DataW.Trod enc P w base spare held t0 v0 d0 p0 ∧ DataW.Trod enc P w base spare held t1 v1 d1 p1 ∧ DataW.Trod enc P w base spare held t2 v2 d2 p2 ∧ DataW.Trod enc P w base spare held t3 v3 d3 p3 ∧ DataW.Trod enc P w base spare held t4 v4 d4 p4 ∧ DataW.Trod enc P w base spare held t5 v5 d5 p5 ∧ DataW.Trod enc P w base spare held t6 v6 d6 p6 := by
  obtain ⟨v0, vs0, d0, ds0, p0, q0, hargs, rfl, rfl, hd0, hr0⟩ := trodAll_cons h
  obtain ⟨v1, vs1, d1, ds1, p1, q1, rfl, rfl, rfl, hd1, hr1⟩ := trodAll_cons hr0
  obtain ⟨v2, vs2, d2, ds2, p2, q2, rfl, rfl, rfl, hd2, hr2⟩ := trodAll_cons hr1
  obtain ⟨v3, vs3, d3, ds3, p3, q3, rfl, rfl, rfl, hd3, hr3⟩ := trodAll_cons hr2
  obtain ⟨v4, vs4, d4, ds4, p4, q4, rfl, rfl, rfl, hd4, hr4⟩ := trodAll_cons hr3
  obtain ⟨v5, vs5, d5, ds5, p5, q5, rfl, rfl, rfl, hd5, hr5⟩ := trodAll_cons hr4
  obtain ⟨v6, vs6, d6, ds6, p6, q6, rfl, rfl, rfl, hd6, hr6⟩ := trodAll_cons hr5
  obtain ⟨rfl, rfl, rfl⟩ := trodAll_nil hr6
  exact ⟨v0, v1, v2, v3, v4, v5, v6, d0, d1, d2, d3, d4, d5, d6, p0, p1, p2, p3, p4, p5, p6, by cases args; simp_all, rfl, by simp, hd0, hd1, hd2, hd3, hd4, hd5, hd6⟩
theorem trodAll_m7 {t0 t1 t2 t3 t4 t5 t6 : TypeId} {v0 v1 v2 v3 v4 v5 v6 : Value} {d0 d1 d2 d3 d4 d5 d6 : DataW H} {p0 p1 p2 p3 p4 p5 p6 : List MemPlace} (h0 : DataW.Trod enc P w base spare held t0 v0 d0 p0) (h1 : DataW.Trod enc P w base spare held t1 v1 d1 p1) (h2 : DataW.Trod enc P w base spare held t2 v2 d2 p2) (h3 : DataW.Trod enc P w base spare held t3 v3 d3 p3) (h4 : DataW.Trod enc P w base spare held t4 v4 d4 p4) (h5 : DataW.Trod enc P w base spare held t5 v5 d5 p5) (h6 : DataW.Trod enc P w base spare held t6 v6 d6 p6) : DataW.TrodAll enc P w base spare held [t0, t1, t2, t3, t4, t5, t6] [v0, v1, v2, v3, v4, v5, v6] [d0, d1, d2, d3, d4, d5, d6] (p0 ++ (p1 ++ (p2 ++ (p3 ++ (p4 ++ (p5 ++ p6)))))) := ⟨p0, (p1 ++ (p2 ++ (p3 ++ (p4 ++ (p5 ++ p6))))), h0, trodAll_m6 h1 h2 h3 h4 h5 h6, rfl⟩
end
/-- The door's own heap meets the condition: closed facts. -/
theorem door_met (os : Os) (args : Array Value) : laidMetH Tryz.prog laidF ((World.doorLaid Tryz.prog 400 os).forCall (fun _ _ => 0) ⟨#[], args, []⟩).memory :=
  laidMetH_of_parts3 (fuel := 8) (laidMet_of_run' 8 (by kernel_rfl) (by kernel_rfl)) (by kernel_rfl) (by kernel_rfl)
set_option maxHeartbeats 1000000 in
set_option maxRecDepth 100000 in
theorem lifted (os : Os) (started : os.Started) (H : Type) (enc : TypeId × Value → H) :
    ReturnsInHanded {} Tryz.checked os 3 .any (fun w args => (Rows.permuteProductsSpec.pre enc Tryz.prog Tryz.f3 [] false w args ∧ laidMetH Tryz.prog laidF w) ∧ sizedMet enc Tryz.prog Tryz.f3 (OpenSpec.ofChange Rows.permuteProductsSpec) false w args)
      (Rows.permuteProductsSpec.post enc Tryz.prog Tryz.f3 false true false false) := by
  refine returnsInHanded_of_change_and (C := Tryz.checked) (X := fun w _ => laidMetH Tryz.prog laidF w) (fun _ _ _ hh h => h.of_heap hh) Tryz.own started (by kernel_rfl) Tryz.func3
    (ChangeSpec.witness_shaped (enc := enc) (C := Tryz.checked) (os := os) (X := fun w _ => laidMetH Tryz.prog laidF w) false (World.doorLaid Tryz.prog 400 os) #[.int .i64 0, .int .i64 0, .slice none 0 0, .slice none 0 0, .agg #[.int .u64 0, .int .u64 0, .int .u64 0, .int .u64 0], .agg #[.int .u64 0, .int .u64 0, .int .u64 0, .int .u64 0], .slice none 0 0] 8 rfl (World.shaped_of_RefB (by kernel_rfl) (by kernel_rfl)) (by kernel_rfl) (by kernel_rfl) (by kernel_rfl) (door_met os _)) ?_
  intro W base args ds gs before hval0 hW _ hsz0 hL _
  have hval : ∀ (j : Nat) t v, Tryz.f3.params[j]? = some t → args[j]? = some v → Value.okWide Tryz.prog W .any base t v := hval0
  have hW' := hW
  obtain ⟨p, q, hA0, hV, rfl, _, _⟩ := hW
  have hA : DataW.TrodAll enc Tryz.prog W 0 (fun _ => true) true Tryz.f3.params.toList args.toList ds p := hA0
  rw [Tryz.params3] at hA hval
  have hsz : (DataW.weightsEach Tryz.prog (Tryz.f3.params.toList ++ Rows.permuteProductsSpec.plain.varTypes Tryz.prog) (ds ++ gs)).all (· ≤ reachBytes) = true := hsz0
  clear hsz0
  rw [Tryz.params3] at hsz
  obtain ⟨v0, v1, v2, v3, v4, v5, v6, d0, d1, d2, d3, d4, d5, d6, p0, p1, p2, p3, p4, p5, p6, rfl, rfl, rfl, h0, h1, h2, h3, h4, h5, h6⟩ := trodAll_n7 hA
  obtain ⟨rfl, rfl⟩ := trodVars_none hV
  obtain ⟨x0, rfl, rfl, rfl, hx0⟩ := open_int Tryz.underlying3 (hval 0 3 v0 rfl rfl) h0
  obtain ⟨x1, rfl, rfl, rfl, hx1⟩ := open_int Tryz.underlying3 (hval 1 3 v1 rfl rfl) h1
  have h2k := h2
  obtain ⟨o2, n2, c2, F2, L2, X2, rfl, hT2, hn2, hL2, hX2⟩ := openT (hval 2 22 v2 rfl rfl) h2 (fun q hq => by
    have h1 := List.all_eq_true.mp hsz q (wEach (i := 2) (t := 22) (d := d2) rfl rfl q hq)
    exact of_decide_eq_true h1)
  have h3k := h3
  obtain ⟨o3, n3, c3, F3, L3, X3, rfl, hT3, hn3, hL3, hX3⟩ := openT (hval 3 22 v3 rfl rfl) h3 (fun q hq => by
    have h1 := List.all_eq_true.mp hsz q (wEach (i := 3) (t := 22) (d := d3) rfl rfl q hq)
    exact of_decide_eq_true h1)
  obtain ⟨x4, hx4, rfl, rfl, rfl⟩ := openE (hval 4 25 v4 rfl rfl) h4
  obtain ⟨x5, hx5, rfl, rfl, rfl⟩ := openE (hval 5 25 v5 rfl rfl) h5
  have h6k := h6
  obtain ⟨n6, f6, hE6, hf6, hn6⟩ := openV (hval 6 26 v6 rfl rfl) h6 (fun el sp hd => by subst hd; exact sized_slice hsz (j := 6) rfl rfl Tryz.underlying26)
  clear hA0 hval0
  simp only [List.append_nil, List.nil_append] at hW'
  refine (pq_any x0 x1 o2 n2 c2 o3 n3 c3 v6 n6 x4 x5 F2 F3 L2 L3 X2 X3 f6 hn6 hL2 hL3 hx4 hx5 hX2 hX3 hf6 W (globD_of_laid hL) hT2 hT3 hE6).mono fun e W' ⟨he, hb⟩ => ?_
  subst he
  have r1 : (Rows.permuteProductsSpec.fn H ([.lit (.int .i64 x0), .lit (.int .i64 x1), d2, d3, DataW.agg [.lit (.int .u64 ((limb 0 x4 : Nat) : Int)), .lit (.int .u64 ((limb 1 x4 : Nat) : Int)), .lit (.int .u64 ((limb 2 x4 : Nat) : Int)), .lit (.int .u64 ((limb 3 x4 : Nat) : Int))], DataW.agg [.lit (.int .u64 ((limb 0 x5 : Nat) : Int)), .lit (.int .u64 ((limb 1 x5 : Nat) : Int)), .lit (.int .u64 ((limb 2 x5 : Nat) : Int)), .lit (.int .u64 ((limb 3 x5 : Nat) : Int))], d6] ++ [])).results = [.lit (.bool true)] := by simp [Rows.permuteProductsSpec]
  have a1 : (Rows.permuteProductsSpec.fn H ([.lit (.int .i64 x0), .lit (.int .i64 x1), d2, d3, DataW.agg [.lit (.int .u64 ((limb 0 x4 : Nat) : Int)), .lit (.int .u64 ((limb 1 x4 : Nat) : Int)), .lit (.int .u64 ((limb 2 x4 : Nat) : Int)), .lit (.int .u64 ((limb 3 x4 : Nat) : Int))], DataW.agg [.lit (.int .u64 ((limb 0 x5 : Nat) : Int)), .lit (.int .u64 ((limb 1 x5 : Nat) : Int)), .lit (.int .u64 ((limb 2 x5 : Nat) : Int)), .lit (.int .u64 ((limb 3 x5 : Nat) : Int))], d6] ++ [])).args = [.lit (.int .i64 x0), .lit (.int .i64 x1), d2, d3, DataW.agg [.lit (.int .u64 ((limb 0 x4 : Nat) : Int)), .lit (.int .u64 ((limb 1 x4 : Nat) : Int)), .lit (.int .u64 ((limb 2 x4 : Nat) : Int)), .lit (.int .u64 ((limb 3 x4 : Nat) : Int))], DataW.agg [.lit (.int .u64 ((limb 0 x5 : Nat) : Int)), .lit (.int .u64 ((limb 1 x5 : Nat) : Int)), .lit (.int .u64 ((limb 2 x5 : Nat) : Int)), .lit (.int .u64 ((limb 3 x5 : Nat) : Int))], d6] := by simp [Rows.permuteProductsSpec]
  have v1 : (Rows.permuteProductsSpec.fn H ([.lit (.int .i64 x0), .lit (.int .i64 x1), d2, d3, DataW.agg [.lit (.int .u64 ((limb 0 x4 : Nat) : Int)), .lit (.int .u64 ((limb 1 x4 : Nat) : Int)), .lit (.int .u64 ((limb 2 x4 : Nat) : Int)), .lit (.int .u64 ((limb 3 x4 : Nat) : Int))], DataW.agg [.lit (.int .u64 ((limb 0 x5 : Nat) : Int)), .lit (.int .u64 ((limb 1 x5 : Nat) : Int)), .lit (.int .u64 ((limb 2 x5 : Nat) : Int)), .lit (.int .u64 ((limb 3 x5 : Nat) : Int))], d6] ++ [])).vars = [] := by simp [Rows.permuteProductsSpec]
  refine ⟨_, rfl, _, _, _, [], ([] ++ ([] ++ (p2 ++ (p3 ++ ([] ++ ([] ++ p6)))))), [], hW', ?_, ?_, ?_, hb.frame _, fun h => by cases h⟩
  · rw [r1]; exact trodAll_mk1 (shut_bool Tryz.underlying4 true)
  · rw [a1]; exact trodAll_m7 (shut_int Tryz.underlying3 hx0) (shut_int Tryz.underlying3 hx1) (Below.trod Tryz.laidOut (by kernel_rfl) (of_decide_eq_true (by kernel_rfl)) h2k hb (fun x hx => by simpa using hW'.lt x (by simp [hx]))) (Below.trod Tryz.laidOut (by kernel_rfl) (of_decide_eq_true (by kernel_rfl)) h3k hb (fun x hx => by simpa using hW'.lt x (by simp [hx]))) (readE W' x4 _) (readE W' x5 _) (Below.trod Tryz.laidOut (by kernel_rfl) (of_decide_eq_true (by kernel_rfl)) h6k hb (fun x hx => by simpa using hW'.lt x (by simp [hx])))
  · rw [v1]; rfl
theorem permuteProducts_holds : Rows.PermuteProductsSaid :=
  OpenClaim.holds_of_wide 3 Tryz.f3 rfl rfl rfl rfl rfl rfl rfl ⟨rfl, rfl, rfl, rfl, rfl⟩ rfl rfl rfl rfl rfl (by kernel_rfl) Tryz.func3 (by kernel_rfl)
    (of_decide_eq_true (by kernel_rfl)) (by unfold Func.isWrapper; first | (rw [if_pos (by decide +kernel)]; kernel_rfl) | (rw [if_neg (by decide +kernel)]; exact ⟨rfl, rfl⟩))
    (fun os started H enc _ => lifted os started H enc)
/-- The card: the row, its listed variables tied to the program's text. -/
theorem permuteProducts_card : Rows.PermuteProductsCardSaid :=
  Claim7.holds_tied_plain_at .later [] [.data, .data, .data] true (true, "ace28510dd02553f297c09bd137e75fc657229e3d70e1b2e22a0b3b1900e2f2d") true
    permuteProducts_holds (fun _ h => by cases h) (by kernel_rfl) (fun _ h => by cases h) permuteProducts_row_tie rfl ⟨rfl, rfl⟩ (by kernel_rfl) rfl
    (fun f fn hf hfn => by
      obtain rfl : f = 3 := Option.some.inj ((show Tryz.prog.funcNamed "sigil/sigillaw16.PermuteProducts" = some 3 by kernel_rfl).symm.trans hf) |>.symm
      obtain rfl : fn = Tryz.f3 := (Option.some.inj (Tryz.func3.symm.trans hfn)).symm
      exact ⟨by kernel_rfl, fun j t ht => by
        rw [Tryz.params3] at ht
        have hm : t ∈ [3, 3, 22, 22, 25, 25, 26] := by simpa using Array.mem_of_getElem? ht
        have hall : ([3, 3, 22, 22, 25, 25, 26].all fun u => !Tryz.prog.wantsStandIn u) = true := by kernel_rfl
        exact (show Tryz.prog.wantsStandIn t = false by simpa using List.all_eq_true.1 hall t hm)⟩)
    (by kernel_rfl)
#print axioms permuteProducts_card
end Go.Proofs.YtfbfenljfdnggaaGreatDoor
