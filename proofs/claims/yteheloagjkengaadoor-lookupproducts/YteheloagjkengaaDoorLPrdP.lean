/- LookupProducts: for every sort, size and case (lists, challenges, coins) the call returns true: Product answers what the reference answers, the lists are left as they were, and as many coins are taken. Condition: the variables of package field named primes and one read as the text lays them when the call begins (the card ties them). -/
import Derived.Test.YteheloagjkengaaDoorRows
import Derived.Test.YteheloagjkengaaDoorLPG
import Derived.Test.YteheloagjkengaaDoorLPE
import Derived.Test.YteheloagjkengaaDoorBA
import Derived.Test.YteheloagjkengaaDoorTie
import Derived.Test.YteheloagjkengaaDoorCards
import Derived.SevenTiedAt
import Derived.SizedLaws
import Derived.ProofKit
import Derived.Laws.IdiomArrays
namespace Go.Proofs.YteheloagjkengaaDoor
open Go.ChangeShapes Go.WideShapes Go.ChangeAt Go.RowKit
open Go.WideMaps Go.WideElems
open Go.ChangeMaps (setBlock shut_map_nil open_string shut_string keptBut_setBlock frozen?_setBlock heap_setBlock_same)

theorem Tryd.own : ownKnob Tryd.prog.godebug = none := by kernel_rfl
theorem Tryd.cellsU : Tryd.prog.cellsOf 23 = 1 := by kernel_rfl
theorem Tryd.cellsE : Tryd.prog.cellsOf 25 = 4 := by kernel_rfl
theorem list4 {α : Type} (l : List α) (h : (⟨l⟩ : Array α).size = 4) : ∃ a b c d, l = [a, b, c, d] := by
  match l, h with
  | [a, b, c, d], _ => exact ⟨a, b, c, d, rfl⟩
set_option maxRecDepth 100000 in
/-- An array of four words that is read is the words of a number below 2^256. -/
theorem openE {H : Type} {enc : TypeId × Value → H} {W : World} {base : Nat} {v : Value} {d : DataW H} {p : List MemPlace} (hv : Value.okWide Tryd.prog W .any base 25 v) (h : DataW.Trod enc Tryd.prog W 0 (fun _ => true) true 25 v d p) :
    ∃ x : Nat, x < 115792089237316195423570985008687907853269984665640564039457584007913129639936 ∧ v = .agg #[.int .u64 ((limb 0 (x) : Nat) : Int), .int .u64 ((limb 1 (x) : Nat) : Int), .int .u64 ((limb 2 (x) : Nat) : Int), .int .u64 ((limb 3 (x) : Nat) : Int)] ∧ p = [] ∧ d = .agg [.lit (.int .u64 ((limb 0 x : Nat) : Int)), .lit (.int .u64 ((limb 1 x : Nat) : Int)), .lit (.int .u64 ((limb 2 x : Nat) : Int)), .lit (.int .u64 ((limb 3 x : Nat) : Int))] := by
  obtain ⟨cs, rfl, hsz, _⟩ : ∃ cs, v = .agg cs ∧ cs.size = Tryd.prog.cellsOf 25 ∧ Row.okWide Tryd.prog W .any base 25 cs := by
    simpa [Value.okWide, Tryd.underlying25] using hv
  rw [Tryd.cellsE] at hsz
  obtain ⟨l⟩ := cs
  obtain ⟨c0, c1, c2, c3, rfl⟩ := list4 l hsz
  obtain ⟨fuel, hf⟩ := h
  obtain ⟨y0, y1, y2, y3, m, hx, hy0, hy1, hy2, hy3⟩ := trod_array4 Tryd.underlying25 Tryd.cellsU hf
  obtain ⟨x0, e0, rfl, w0⟩ := DataW.trod_int Tryd.underlying23 hy0
  obtain ⟨x1, e1, rfl, w1⟩ := DataW.trod_int Tryd.underlying23 hy1
  obtain ⟨x2, e2, rfl, w2⟩ := DataW.trod_int Tryd.underlying23 hy2
  obtain ⟨x3, e3, rfl, w3⟩ := DataW.trod_int Tryd.underlying23 hy3
  simp at e0 e1 e2 e3
  subst e0 e1 e2 e3
  simp only [Prod.mk.injEq] at hx
  obtain ⟨rfl, rfl⟩ := hx
  have b0 := bounds_u64' w0; have b1 := bounds_u64' w1; have b2 := bounds_u64' w2; have b3 := bounds_u64' w3
  obtain ⟨n0, rfl⟩ := Int.eq_ofNat_of_zero_le b0.1
  obtain ⟨n1, rfl⟩ := Int.eq_ofNat_of_zero_le b1.1
  obtain ⟨n2, rfl⟩ := Int.eq_ofNat_of_zero_le b2.1
  obtain ⟨n3, rfl⟩ := Int.eq_ofNat_of_zero_le b3.1
  have g := limbs_of n0 n1 n2 n3 (by omega) (by omega) (by omega) (by omega) _ rfl
  refine ⟨_, g.2.2.2.2, ?_, rfl, ?_⟩
  · rw [← g.1, ← g.2.1, ← g.2.2.1, ← g.2.2.2.1]
  · rw [← g.1, ← g.2.1, ← g.2.2.1, ← g.2.2.2.1]
set_option maxRecDepth 100000 in
theorem readE {H : Type} {enc : TypeId × Value → H} (W : World) (x : Nat) (sp : Nat → Bool) : DataW.Trod enc Tryd.prog W 0 sp true 25 (.agg #[.int .u64 ((limb 0 (x) : Nat) : Int), .int .u64 ((limb 1 (x) : Nat) : Int), .int .u64 ((limb 2 (x) : Nat) : Int), .int .u64 ((limb 3 (x) : Nat) : Int)]) (DataW.agg [.lit (.int .u64 ((limb 0 x : Nat) : Int)), .lit (.int .u64 ((limb 1 x : Nat) : Int)), .lit (.int .u64 ((limb 2 x : Nat) : Int)), .lit (.int .u64 ((limb 3 x : Nat) : Int))]) [] := by
  have hw : ∀ i, (Lit.int .u64 ((limb i x : Nat) : Int)).wf = true := fun i => wf_limb (limb i x) (limb_lt i x)
  exact ⟨2, by simp [DataW.trod, Value.cells, Tryd.underlying25, Tryd.underlying23, Tryd.cellsE, Tryd.cellsU, hw, show List.range 4 = [0, 1, 2, 3] from rfl]⟩
theorem Tryd.laidOut : laidOutB Tryd.prog = true := by kernel_rfl
set_option maxRecDepth 100000 in
/-- A slice of elements that is read. -/
theorem openL {H : Type} {enc : TypeId × Value → H} {W : World} {base : Nat} {v : Value} {d : DataW H} {p : List MemPlace} (hv : Value.okWide Tryd.prog W .any base 22 v) (h : DataW.Trod enc Tryd.prog W 0 (fun _ => true) true 22 v d p) :
    ∃ (n : Nat) (f : Nat → Nat), Es W v n f ∧ ∀ i, i < n → f i < 115792089237316195423570985008687907853269984665640564039457584007913129639936 := by
  obtain ⟨a0, len, cap, rfl⟩ := okWide_slice Tryd.underlying22 hv
  obtain ⟨fuel, hf⟩ := h
  rcases DataW.trod_slice Tryd.underlying22 hf with ⟨hcs, hx⟩ | ⟨a, len', cap', elems, rest, m, _, hcs, hx, _, hl, hm, hlen, hel, _, _⟩
  · simp [Value.cells] at hcs
    obtain ⟨rfl, rfl, rfl⟩ := hcs
    exact ⟨0, fun _ => 0, Or.inl ⟨rfl, rfl⟩, fun i hi => by omega⟩
  · simp [Value.cells] at hcs
    obtain ⟨rfl, rfl, rfl⟩ := hcs
    have hb : a.block < W.heap.size ∧ a.spot = none := by
      have h1 : Value.okWide Tryd.prog W .any base 22 (.slice (some a) len cap) := hv
      simp only [Value.okWide, Cell.okWide, Cell.ok, Tryd.underlying22] at h1
      obtain ⟨_, _, _, hsp, row, cells, hs, _⟩ := h1
      refine ⟨?_, hsp⟩
      rcases Nat.lt_or_ge a.block W.heap.size with h | h
      · exact h
      · simp [World.shape?, Array.getElem?_eq_none h] at hs
    obtain ⟨hbl, hsp⟩ := hb
    obtain ⟨b, o, sp⟩ := a
    dsimp only at hsp hbl
    subst hsp
    have each : ∀ i, i < len → ∃ x : Nat, x < 115792089237316195423570985008687907853269984665640564039457584007913129639936 ∧ ∀ j, j < 4 → W.cell? ⟨b, o + i * 4 + j, none⟩ = some (.int .u64 ((limb j x : Nat) : Int)) := by
      intro i hi
      have he := hel i hi
      rw [Tryd.cellsE, List.getElem?_eq_getElem (by omega)] at he
      obtain ⟨cs, hcs, ht⟩ := Option.bind_eq_some_iff.1 he
      obtain ⟨_, hcl, hcc⟩ := World.cells?_some hcs
      obtain ⟨c0, c1, c2, c3, rfl⟩ := list4 cs (by simpa using hcl)
      obtain ⟨y0, y1, y2, y3, k, _, hy0, hy1, hy2, hy3⟩ := trod_array4 Tryd.underlying25 Tryd.cellsU ht
      obtain ⟨x0, e0, _, w0⟩ := DataW.trod_int Tryd.underlying23 hy0
      obtain ⟨x1, e1, _, w1⟩ := DataW.trod_int Tryd.underlying23 hy1
      obtain ⟨x2, e2, _, w2⟩ := DataW.trod_int Tryd.underlying23 hy2
      obtain ⟨x3, e3, _, w3⟩ := DataW.trod_int Tryd.underlying23 hy3
      simp at e0 e1 e2 e3
      subst e0 e1 e2 e3
      have b0 := bounds_u64' w0; have b1 := bounds_u64' w1; have b2 := bounds_u64' w2; have b3 := bounds_u64' w3
      obtain ⟨n0, rfl⟩ := Int.eq_ofNat_of_zero_le b0.1
      obtain ⟨n1, rfl⟩ := Int.eq_ofNat_of_zero_le b1.1
      obtain ⟨n2, rfl⟩ := Int.eq_ofNat_of_zero_le b2.1
      obtain ⟨n3, rfl⟩ := Int.eq_ofNat_of_zero_le b3.1
      have g := limbs_of n0 n1 n2 n3 (by omega) (by omega) (by omega) (by omega) _ rfl
      refine ⟨_, g.2.2.2.2, fun j hj => ?_⟩
      have hc := hcc j hj
      have hadd : ((⟨b, o, none⟩ : Addr).add (i * 4)).add j = ⟨b, o + i * 4 + j, none⟩ := by rw [add_plain, add_plain]
      rw [hadd] at hc
      rw [hc]
      have hj4 : j = 0 ∨ j = 1 ∨ j = 2 ∨ j = 3 := by omega
      rcases hj4 with rfl | rfl | rfl | rfl
      · rw [← g.1]; rfl
      · rw [← g.2.1]; rfl
      · rw [← g.2.2.1]; rfl
      · rw [← g.2.2.2.1]; rfl
    refine ⟨len, fun i => if h : i < len then (each i h).choose else 0, Or.inr ⟨b, o, cap, rfl, hl, hm, hbl, fun i hi j hj => ?_⟩, fun i hi => ?_⟩
    · dsimp only
      rw [dif_pos hi]
      exact (each i hi).choose_spec.2 j hj
    · dsimp only
      rw [dif_pos hi]
      exact (each i hi).choose_spec.1
set_option maxRecDepth 100000 in
/-- Four cells that are read as an element are the words of a number below 2^256. -/
theorem openQ {H : Type} {enc : TypeId × Value → H} {W : World} {base m : Nat} {sp : Nat → Bool} {held : Bool} {c0 c1 c2 c3 : Value} {x : DataW H × List MemPlace} (h : DataW.trod enc Tryd.prog W base sp held m 25 [c0, c1, c2, c3] = some x) :
    ∃ x : Nat, x < 115792089237316195423570985008687907853269984665640564039457584007913129639936 ∧ c0 = .int .u64 ((limb 0 x : Nat) : Int) ∧ c1 = .int .u64 ((limb 1 x : Nat) : Int) ∧ c2 = .int .u64 ((limb 2 x : Nat) : Int) ∧ c3 = .int .u64 ((limb 3 x : Nat) : Int) := by
  obtain ⟨y0, y1, y2, y3, k, _, hy0, hy1, hy2, hy3⟩ := trod_array4 Tryd.underlying25 Tryd.cellsU h
  obtain ⟨x0, e0, _, w0⟩ := DataW.trod_int Tryd.underlying23 hy0
  obtain ⟨x1, e1, _, w1⟩ := DataW.trod_int Tryd.underlying23 hy1
  obtain ⟨x2, e2, _, w2⟩ := DataW.trod_int Tryd.underlying23 hy2
  obtain ⟨x3, e3, _, w3⟩ := DataW.trod_int Tryd.underlying23 hy3
  simp at e0 e1 e2 e3
  subst e0 e1 e2 e3
  have b0 := bounds_u64' w0; have b1 := bounds_u64' w1; have b2 := bounds_u64' w2; have b3 := bounds_u64' w3
  obtain ⟨n0, rfl⟩ := Int.eq_ofNat_of_zero_le b0.1
  obtain ⟨n1, rfl⟩ := Int.eq_ofNat_of_zero_le b1.1
  obtain ⟨n2, rfl⟩ := Int.eq_ofNat_of_zero_le b2.1
  obtain ⟨n3, rfl⟩ := Int.eq_ofNat_of_zero_le b3.1
  have g := limbs_of n0 n1 n2 n3 (by omega) (by omega) (by omega) (by omega) _ rfl
  refine ⟨_, g.2.2.2.2, ?_, ?_, ?_, ?_⟩
  · rw [← g.1]
  · rw [← g.2.1]
  · rw [← g.2.2.1]
  · rw [← g.2.2.2.1]
theorem Tryd.bytesEl : Tryd.prog.bytesOf 25 = 32 := by kernel_rfl
set_option maxRecDepth 100000 in
/-- A slice of elements that is read, with its size. -/
theorem openV {H : Type} {enc : TypeId × Value → H} {W : World} {base : Nat} {v : Value} {d : DataW H} {p : List MemPlace} (hv : Value.okWide Tryd.prog W .any base 22 v) (h : DataW.Trod enc Tryd.prog W 0 (fun _ => true) true 22 v d p)
    (hz : ∀ el sp, d = .slice el sp → (el.length + sp.length) * Tryd.prog.bytesOf 25 ≤ reachBytes) :
    ∃ (n : Nat) (f : Nat → Nat), Es W v n f ∧ (∀ i, i < n → f i < 115792089237316195423570985008687907853269984665640564039457584007913129639936) ∧ n ≤ 4398046510976 := by
  obtain ⟨n, f, hR, hT⟩ := openL hv h
  refine ⟨n, f, hR, hT, ?_⟩
  obtain ⟨fuel, hf⟩ := h
  rcases DataW.trod_slice Tryd.underlying22 hf with ⟨hcs, _⟩ | ⟨a, len', cap', elems, rest, m, _, hcs, hx, _, hl, hm, hlen, _⟩
  · rcases hR with ⟨_, h0⟩ | ⟨b, o, c, rfl, _⟩
    · omega
    · simp [Value.cells] at hcs
  · have hr := hz _ _ (congrArg Prod.fst hx)
    rw [Tryd.bytesEl] at hr
    simp only [List.length_map, reachBytes] at hr
    rcases hR with ⟨rfl, h0⟩ | ⟨b, o, c, rfl, _⟩
    · omega
    · simp [Value.cells] at hcs
      omega
theorem Tryd.cellsCase : Tryd.prog.cellsOf 27 = 13 := by kernel_rfl
theorem Tryd.cellsSl : Tryd.prog.cellsOf 22 = 1 := by kernel_rfl
theorem Tryd.undCase : Tryd.prog.underlying 27 = some (.struct (Tryd.prog.fieldsOf 27)) := by kernel_rfl
theorem list13 {α : Type} (l : List α) (h : (⟨l⟩ : Array α).size = 13) : ∃ c0 c1 c2 c3 c4 c5 c6 c7 c8 c9 ca cb cc, l = [c0, c1, c2, c3, c4, c5, c6, c7, c8, c9, ca, cb, cc] := by
  match l, h with
  | [c0, c1, c2, c3, c4, c5, c6, c7, c8, c9, ca, cb, cc], _ => exact ⟨c0, c1, c2, c3, c4, c5, c6, c7, c8, c9, ca, cb, cc, rfl⟩
theorem list7 {α : Type} (l : List α) (h : l.length = 7) : ∃ x0 x1 x2 x3 x4 x5 x6, l = [x0, x1, x2, x3, x4, x5, x6] := by
  match l, h with
  | [x0, x1, x2, x3, x4, x5, x6], _ => exact ⟨x0, x1, x2, x3, x4, x5, x6, rfl⟩
section
variable {H : Type} {enc : TypeId × Value → H} {W : World}
theorem field_get {base fuel : Nat} {sp : Nat → Bool} {held : Bool} {t : TypeId} {fs : Array Field} {cs : List Value} {x : DataW H × List MemPlace} (hfs : Tryd.prog.underlying t = some (.struct fs)) (L : List (TypeId × Nat)) (hL : fs.toList.map (fun f => (f.type, f.offset)) = L) (h : DataW.trod enc Tryd.prog W base sp held fuel t cs = some x) :
    ∃ (xs : List (DataW H × List MemPlace)) (m : Nat), x.1 = .agg (xs.map (·.1)) ∧ xs.length = L.length ∧ ∀ (i : Nat) (ty : TypeId) (off : Nat), L[i]? = some (ty, off) → DataW.trod enc Tryd.prog W base sp held m ty ((cs.drop off).take (Tryd.prog.cellsOf ty)) = xs[i]? := by
  obtain ⟨xs, m, _, hx, _, hxl, hf⟩ := DataW.trod_struct hfs h
  refine ⟨xs, m, by rw [hx], ?_, fun i ty off hi => ?_⟩
  · rw [hxl, ← hL]; simp
  · rw [← hL, List.getElem?_map] at hi
    obtain ⟨f, hf1, hf2⟩ := Option.map_eq_some_iff.mp hi
    simp only [Prod.mk.injEq] at hf2
    have h1 := hf i f (by simpa using hf1)
    rw [hf2.1, hf2.2] at h1
    exact h1
theorem wEach : ∀ {ts : List TypeId} {ds : List (DataW H)} {i : Nat} {t : TypeId} {d : DataW H}, ts[i]? = some t → ds[i]? = some d → ∀ q ∈ d.weights Tryd.prog t, q ∈ DataW.weightsEach Tryd.prog ts ds
  | [], ds, i, t, d, h, _ => by simp at h
  | t0 :: ts, [], i, t, d, _, h => by simp at h
  | t0 :: ts, d0 :: ds, 0, t, d, h, h' => fun q hq => by
    simp at h h'
    subst h h'
    simp [DataW.weightsEach, hq]
  | t0 :: ts, d0 :: ds, i + 1, t, d, h, h' => fun q hq => by
    have h1 := wEach (ts := ts) (ds := ds) (i := i) (t := t) (d := d) (by simpa using h) (by simpa using h') q hq
    simp [DataW.weightsEach, h1]
theorem w_headL {es rs : List (DataW H)} {d : DataW H} (hd : d = .slice es rs) (hz : ∀ q ∈ d.weights Tryd.prog 22, q ≤ reachBytes) : (es.length + rs.length) * Tryd.prog.bytesOf 25 ≤ reachBytes := by
  subst hd
  exact hz _ (by simp [DataW.weights, Tryd.underlying22])
set_option maxRecDepth 100000 in
theorem openLc {base fuel : Nat} {v : Value} {x : DataW H × List MemPlace} (hv : Cell.okWide Tryd.prog W .any base 22 v) (h : DataW.trod enc Tryd.prog W 0 (fun _ => true) true fuel 22 [v] = some x) (hz : ∀ q ∈ x.1.weights Tryd.prog 22, q ≤ reachBytes) :
    ∃ (o : Option Addr) (n c : Nat) (f : Nat → Nat), v = .slice o n c ∧ Es W (.slice o n c) n f ∧ (∀ i, i < n → f i < 115792089237316195423570985008687907853269984665640564039457584007913129639936) ∧ n ≤ 4398046510976 := by
  obtain ⟨o, n, c, rfl⟩ : ∃ o n c, v = .slice o n c := by
    rcases DataW.trod_slice Tryd.underlying22 h with ⟨hcs, _⟩ | ⟨a, len, cap, elems, rest, m, _, hcs, _⟩
    · simp at hcs; exact ⟨_, _, _, hcs⟩
    · simp at hcs; exact ⟨_, _, _, hcs⟩
  have hv2 : Value.okWide Tryd.prog W .any base 22 (.slice o n c) := by simpa [Value.okWide, Tryd.underlying22] using hv
  obtain ⟨n2, f, hE, hf, hn⟩ := openV hv2 ⟨fuel, h⟩ (fun el sp hd => w_headL hd hz)
  have e : n2 = n := by
    rcases hE with ⟨h1, h2⟩ | ⟨b, oo, cc, h1, _⟩
    · cases h1; exact h2
    · cases h1; rfl
  subst e
  exact ⟨o, n2, c, f, rfl, hE, hf, hn⟩
set_option maxRecDepth 100000 in
/-- A case that is read. -/
theorem openZ {base : Nat} {v : Value} {d : DataW H} {p : List MemPlace} (hv : Value.okWide Tryd.prog W .any base 27 v) (h : DataW.Trod enc Tryd.prog W 0 (fun _ => true) true 27 v d p) (hz : ∀ q ∈ d.weights Tryd.prog 27, q ≤ reachBytes) :
    ∃ (cs : Array Value) (be ga : Nat) (o0 : Option Addr) (n0 c0 : Nat) (o1 : Option Addr) (n1 c1 : Nat) (o2 : Option Addr) (n2 c2 : Nat) (o3 : Option Addr) (n3 c3 : Nat) (o6 : Option Addr) (m c6 : Nat) (F0 F1 F2 F3 f : Nat → Nat), v = .agg cs ∧ CsV cs (.slice o0 n0 c0) (.slice o1 n1 c1) (.slice o2 n2 c2) (.slice o3 n3 c3) (.slice o6 m c6) be ga ∧ (n0 ≤ 4398046510976 ∧ n1 ≤ 4398046510976 ∧ n2 ≤ 4398046510976 ∧ n3 ≤ 4398046510976) ∧ m ≤ 4398046510976 ∧ be < 115792089237316195423570985008687907853269984665640564039457584007913129639936 ∧ ga < 115792089237316195423570985008687907853269984665640564039457584007913129639936 ∧
      (∀ i, i < n0 → F0 i < 115792089237316195423570985008687907853269984665640564039457584007913129639936) ∧ (∀ i, i < n1 → F1 i < 115792089237316195423570985008687907853269984665640564039457584007913129639936) ∧ (∀ i, i < n2 → F2 i < 115792089237316195423570985008687907853269984665640564039457584007913129639936) ∧ (∀ i, i < n3 → F3 i < 115792089237316195423570985008687907853269984665640564039457584007913129639936) ∧ (∀ i, i < m → f i < 115792089237316195423570985008687907853269984665640564039457584007913129639936) ∧ Es W (.slice o0 n0 c0) n0 F0 ∧ Es W (.slice o1 n1 c1) n1 F1 ∧ Es W (.slice o2 n2 c2) n2 F2 ∧ Es W (.slice o3 n3 c3) n3 F3 ∧ Es W (.slice o6 m c6) m f := by
  obtain ⟨cs, rfl, hsz, hrow⟩ : ∃ cs, v = .agg cs ∧ cs.size = Tryd.prog.cellsOf 27 ∧ Row.okWide Tryd.prog W .any base 27 cs := by
    simpa [Value.okWide, Tryd.undCase] using hv
  rw [Tryd.cellsCase] at hsz
  obtain ⟨li⟩ := cs
  obtain ⟨c0, c1, c2, c3, c4, c5, c6, c7, c8, c9, ca, cb, cc, rfl⟩ := list13 li hsz
  obtain ⟨fuel, hf0⟩ := h
  obtain ⟨xs, m, hx, hxl, hg⟩ := field_get Tryd.undCase [(22, 0), (22, 1), (22, 2), (22, 3), (25, 4), (25, 8), (22, 12)] (by kernel_rfl) hf0
  have g0 := hg 0 _ _ rfl; have g1 := hg 1 _ _ rfl; have g2 := hg 2 _ _ rfl; have g3 := hg 3 _ _ rfl; have g4 := hg 4 _ _ rfl; have g5 := hg 5 _ _ rfl; have g6 := hg 6 _ _ rfl
  rw [Tryd.cellsSl] at g0 g1 g2 g3 g6
  rw [Tryd.cellsE] at g4 g5
  obtain ⟨x0, x1, x2, x3, x4, x5, x6, rfl⟩ := list7 xs hxl
  have hT : (Tryd.prog.fieldsOf 27).toList.map (·.type) = [22, 22, 22, 22, 25, 25, 22] := by kernel_rfl
  have hd : d = .agg [x0.1, x1.1, x2.1, x3.1, x4.1, x5.1, x6.1] := hx
  have hwe : ∀ q ∈ DataW.weightsEach Tryd.prog [22, 22, 22, 22, 25, 25, 22] [x0.1, x1.1, x2.1, x3.1, x4.1, x5.1, x6.1], q ≤ reachBytes := fun q hq => hz q (by
    rw [hd]
    unfold DataW.weights
    rw [Tryd.undCase]
    show q ∈ DataW.weightsEach Tryd.prog ((Tryd.prog.fieldsOf 27).toList.map (·.type)) _
    rw [hT]
    exact hq)
  have hok : ∀ (j : Nat) (t : TypeId) (c : Value), (Tryd.prog.cellTypes Tryd.prog.depth 27).bind (fun ts => ts[j % ts.length]?) = some t → (#[c0, c1, c2, c3, c4, c5, c6, c7, c8, c9, ca, cb, cc] : Array Value)[j]? = some c → Cell.okWide Tryd.prog W .any base t c := by
    intro j t c hts' hc
    obtain ⟨ts, hts, _, hall⟩ := hrow
    obtain ⟨u, hu, hcell⟩ := hall j c hc
    rw [hts, Option.bind_some, hu] at hts'
    cases hts'
    exact hcell
  obtain ⟨o0, n0, k0, F0, rfl, e0, b0, m0⟩ := openLc (hok 0 22 c0 (by kernel_rfl) rfl) g0 (fun q hq => hwe q (wEach (i := 0) (t := 22) (d := x0.1) rfl rfl q hq))
  obtain ⟨o1, n1, k1, F1, rfl, e1, b1, m1⟩ := openLc (hok 1 22 c1 (by kernel_rfl) rfl) g1 (fun q hq => hwe q (wEach (i := 1) (t := 22) (d := x1.1) rfl rfl q hq))
  obtain ⟨o2, n2, k2, F2, rfl, e2, b2, m2⟩ := openLc (hok 2 22 c2 (by kernel_rfl) rfl) g2 (fun q hq => hwe q (wEach (i := 2) (t := 22) (d := x2.1) rfl rfl q hq))
  obtain ⟨o3, n3, k3, F3, rfl, e3, b3, m3⟩ := openLc (hok 3 22 c3 (by kernel_rfl) rfl) g3 (fun q hq => hwe q (wEach (i := 3) (t := 22) (d := x3.1) rfl rfl q hq))
  obtain ⟨o6, n6, k6, f, rfl, e6, b6, m6⟩ := openLc (hok 12 22 cc (by kernel_rfl) rfl) g6 (fun q hq => hwe q (wEach (i := 6) (t := 22) (d := x6.1) rfl rfl q hq))
  obtain ⟨be, hbe, rfl, rfl, rfl, rfl⟩ := openQ g4
  obtain ⟨ga, hga, rfl, rfl, rfl, rfl⟩ := openQ g5
  exact ⟨_, be, ga, o0, n0, k0, o1, n1, k1, o2, n2, k2, o3, n3, k3, o6, n6, k6, F0, F1, F2, F3, f, rfl, ⟨rfl, rfl, rfl, rfl, rfl, rfl, ⟨rfl, rfl, rfl, rfl⟩, ⟨rfl, rfl, rfl, rfl⟩⟩, ⟨m0, m1, m2, m3⟩, m6, hbe, hga, b0, b1, b2, b3, b6, e0, e1, e2, e3, e6⟩
end

/-- The door's own heap meets the condition: closed facts. -/
theorem door_met (os : Os) (args : Array Value) : laidMetH Tryd.prog laidF ((World.doorLaid Tryd.prog 400 os).forCall (fun _ _ => 0) ⟨#[], args, []⟩).memory :=
  laidMetH_of_parts3 (fuel := 8) (laidMet_of_run' 8 (by kernel_rfl) (by kernel_rfl)) (by kernel_rfl) (by kernel_rfl)

set_option maxHeartbeats 1000000 in
set_option maxRecDepth 100000 in
theorem lifted (os : Os) (started : os.Started) (H : Type) (enc : TypeId × Value → H) :
    ReturnsInHanded {} Tryd.checked os 3 .any (fun w args => (Rows.lookupProductsSpec.pre enc Tryd.prog Tryd.f3 [] false w args ∧ laidMetH Tryd.prog laidF w) ∧ sizedMet enc Tryd.prog Tryd.f3 (OpenSpec.ofChange Rows.lookupProductsSpec) false w args)
      (Rows.lookupProductsSpec.post enc Tryd.prog Tryd.f3 false true false false) := by
  refine returnsInHanded_of_change_and (C := Tryd.checked) (X := fun w _ => laidMetH Tryd.prog laidF w) (fun _ _ _ hh h => h.of_heap hh) Tryd.own started (by kernel_rfl) Tryd.func3
    (ChangeSpec.witness_shaped (enc := enc) (C := Tryd.checked) (os := os) (X := fun w _ => laidMetH Tryd.prog laidF w) false (World.doorLaid Tryd.prog 400 os) #[.int .i64 0, .int .i64 0, .agg #[.slice none 0 0, .slice none 0 0, .slice none 0 0, .slice none 0 0, .int .u64 0, .int .u64 0, .int .u64 0, .int .u64 0, .int .u64 0, .int .u64 0, .int .u64 0, .int .u64 0, .slice none 0 0]] 8 rfl (World.shaped_of_RefB (by kernel_rfl) (by kernel_rfl)) (by kernel_rfl) (by kernel_rfl) (by kernel_rfl) (door_met os _)) ?_
  intro W base args ds gs before hval0 hW _ hsz0 hL _
  have hval : ∀ (j : Nat) t v, Tryd.f3.params[j]? = some t → args[j]? = some v → Value.okWide Tryd.prog W .any base t v := hval0
  have hW' := hW
  obtain ⟨p, q, hA0, hV, rfl, _, _⟩ := hW
  have hA : DataW.TrodAll enc Tryd.prog W 0 (fun _ => true) true Tryd.f3.params.toList args.toList ds p := hA0
  rw [Tryd.params3] at hA hval
  have hsz : (DataW.weightsEach Tryd.prog (Tryd.f3.params.toList ++ Rows.lookupProductsSpec.plain.varTypes Tryd.prog) (ds ++ gs)).all (· ≤ reachBytes) = true := hsz0
  clear hsz0
  rw [Tryd.params3] at hsz
  obtain ⟨v0, v1, v2, d0, d1, d2, p0, p1, p2, rfl, rfl, rfl, h0, h1, h2⟩ := trodAll_three hA
  obtain ⟨rfl, rfl⟩ := trodVars_none hV
  obtain ⟨x0, rfl, rfl, rfl, hx0⟩ := open_int Tryd.underlying3 (hval 0 3 v0 rfl rfl) h0
  obtain ⟨x1, rfl, rfl, rfl, hx1⟩ := open_int Tryd.underlying3 (hval 1 3 v1 rfl rfl) h1
  have h2k := h2
  obtain ⟨cs2, be, ga, o0, n0, c0, o1, n1, c1, o2, n2, c2, o3, n3, c3, o6, m, c6, F0, F1, F2, F3, f, rfl, hCz, hNz, hmz, hbe, hga, f0, f1, f2, f3, f6, e0, e1, e2, e3, e6⟩ := openZ (hval 2 27 v2 rfl rfl) h2 (fun q hq => by
    have h1 := List.all_eq_true.mp hsz q (wEach (i := 2) (t := 27) (d := d2) rfl rfl q hq)
    exact of_decide_eq_true h1)
  clear hA0 hval0
  simp only [List.append_nil, List.nil_append] at hW'
  refine (lp_all x0 x1 cs2 be ga o0 n0 c0 o1 n1 c1 o2 n2 c2 o3 n3 c3 o6 m c6 F0 F1 F2 F3 f hCz hNz hmz hbe hga f0 f1 f2 f3 f6 W (glob_of_laid hL) e0 e1 e2 e3 e6).mono fun e W' ⟨he, hb⟩ => ?_
  subst he
  have r1 : (Rows.lookupProductsSpec.fn H ([.lit (.int .i64 x0), .lit (.int .i64 x1), d2] ++ [])).results = [.lit (.bool true)] := by simp [Rows.lookupProductsSpec]
  have a1 : (Rows.lookupProductsSpec.fn H ([.lit (.int .i64 x0), .lit (.int .i64 x1), d2] ++ [])).args = [.lit (.int .i64 x0), .lit (.int .i64 x1), d2] := by simp [Rows.lookupProductsSpec]
  have v1 : (Rows.lookupProductsSpec.fn H ([.lit (.int .i64 x0), .lit (.int .i64 x1), d2] ++ [])).vars = [] := by simp [Rows.lookupProductsSpec]
  refine ⟨_, rfl, _, _, _, [], ([] ++ ([] ++ p2)), [], hW', ?_, ?_, ?_, hb.frame _, fun h => by cases h⟩
  · rw [r1]; exact trodAll_mk1 (shut_bool Tryd.underlying4 true)
  · rw [a1]; exact trodAll_mk3 (shut_int Tryd.underlying3 hx0) (shut_int Tryd.underlying3 hx1) (Below.trod Tryd.laidOut (by kernel_rfl) (of_decide_eq_true (by kernel_rfl)) h2k hb (fun x hx => by simpa using hW'.lt x (by simp [hx])))
  · rw [v1]; rfl

theorem lookupProducts_holds : Rows.LookupProductsSaid :=
  OpenClaim.holds_of_wide 3 Tryd.f3 rfl rfl rfl rfl rfl rfl rfl ⟨rfl, rfl, rfl, rfl, rfl⟩ rfl rfl rfl rfl rfl (by kernel_rfl) Tryd.func3 (by kernel_rfl)
    (of_decide_eq_true (by kernel_rfl)) (by unfold Func.isWrapper; first | (rw [if_pos (by decide +kernel)]; kernel_rfl) | (rw [if_neg (by decide +kernel)]; exact ⟨rfl, rfl⟩))
    (fun os started H enc _ => lifted os started H enc)

/-- The card: the row, its listed variables tied to the program's text. -/
theorem lookupProducts_card : Rows.LookupProductsCardSaid :=
  Claim7.holds_tied_plain_at .later [] [.data, .data] true (true, "f9ffed294983cb2775ab2e89ce4857eca40c68e1cb4bb58ecc31db3a18d5f6a4") false
    lookupProducts_holds (fun _ h => by cases h) (by kernel_rfl) (fun _ h => by cases h) lookupProducts_row_tie rfl ⟨rfl, rfl⟩ (by kernel_rfl) rfl
    (fun f fn hf hfn => by
      obtain rfl : f = 3 := Option.some.inj ((show Tryd.prog.funcNamed "sigil/sigillaw17.LookupProducts" = some 3 by kernel_rfl).symm.trans hf) |>.symm
      obtain rfl : fn = Tryd.f3 := (Option.some.inj (Tryd.func3.symm.trans hfn)).symm
      exact ⟨by kernel_rfl, fun j t ht => by
        rw [Tryd.params3] at ht
        have hm : t ∈ [3, 3, 27] := by simpa using Array.mem_of_getElem? ht
        have hall : ([3, 3, 27].all fun u => !Tryd.prog.wantsStandIn u) = true := by kernel_rfl
        exact (show Tryd.prog.wantsStandIn t = false by simpa using List.all_eq_true.1 hall t hm)⟩)
    (by kernel_rfl)

#print axioms lookupProducts_card
end Go.Proofs.YteheloagjkengaaDoor
