/- A circuit that is handed in is read, whole. No walk. -/
import Derived.Test.YtbhljgenicahoaaCOP
namespace Go.Proofs.Ytbhljgenicahoaa
open Go.ChangeShapes Go.WideShapes Go.ChangeAt Go.RowKit
open Go.WideMaps Go.WideElems

theorem pick {α : Type} {P : Nat → α → Prop} {len : Nat} (d : α) (h : ∀ i, i < len → ∃ a, P i a) : ∃ F : Nat → α, ∀ i, i < len → P i (F i) :=
  ⟨fun i => if h' : i < len then (h i h').choose else d, fun i hi => by
    dsimp only
    rw [dif_pos hi]
    exact (h i hi).choose_spec⟩
theorem Try.bytesN : Try.prog.bytesOf 49 = 56 := by kernel_rfl
theorem Try.bytesL : Try.prog.bytesOf 53 = 48 := by kernel_rfl
theorem Try.bytesC : Try.prog.bytesOf 64 = 16 := by kernel_rfl
section
variable {H : Type} {enc : TypeId × Value → H} {W : World}
theorem mkRs {a : Addr} {len cap s : Nat} {F : Nat → Nat → Value} (hl : len ≤ cap) (hm : cap ≤ maxLen) (hsp : a.spot = none ∧ a.block < W.heap.size) (hc : ∀ i, i < len → ∀ j, j < s → W.cell? ((a.add (i * s)).add j) = some (F i j)) : Rs W (.slice (some a) len cap) s len F := by
  obtain ⟨b, o, sp⟩ := a
  have hsp' : sp = none := hsp.1
  subst hsp'
  refine Or.inr ⟨b, o, cap, rfl, hl, hm, hsp.2, fun i hi j hj => ?_⟩
  have h := hc i hi j hj
  rw [add_plain, add_plain] at h
  exact h
theorem w_head {t e : TypeId} {es rs : List (DataW H)} {d : DataW H} (ht : Try.prog.underlying t = some (.slice e)) (hd : d = .slice es rs) (hz : ∀ q ∈ d.weights Try.prog t, q ≤ reachBytes) : (es.length + rs.length) * Try.prog.bytesOf e ≤ reachBytes ∧ ∀ (i : Nat) (y : DataW H), es[i]? = some y → ∀ q ∈ y.weights Try.prog e, q ≤ reachBytes := by
  subst hd
  refine ⟨hz _ (by simp [DataW.weights, ht]), fun i y hi q hq => hz q ?_⟩
  have h := wAll (e := e) hi q hq
  simp [DataW.weights, ht, h]
set_option maxRecDepth 100000 in
theorem openNs {base fuel : Nat} {v : Value} {x : DataW H × List MemPlace} (hv : Cell.okWide Try.prog W .any base 22 v) (h : DataW.trod enc Try.prog W 0 (fun _ => true) true fuel 22 [v] = some x) (hz : ∀ q ∈ x.1.weights Try.prog 22, q ≤ reachBytes) :
    ∃ (o : Option Addr) (n c : Nat) (T : Nat → Int × Int × Int × Nat), v = .slice o n c ∧ Rs W (.slice o n c) 7 n (fun i => nC (T i)) ∧ n ≤ 2513169434916 := by
  rcases open_rows Try.underlying22 Try.cellsN h with ⟨rfl, _⟩ | ⟨a, len, cap, es, rs, m, rfl, hx, hl, hm, hes, hel⟩
  · exact ⟨none, 0, 0, fun _ => (0, 0, 0, 0), rfl, Or.inl ⟨rfl, rfl⟩, by decide⟩
  · have hb := (w_head Try.underlying22 hx hz).1
    rw [Try.bytesN, hes] at hb
    obtain ⟨T, hT⟩ := pick (P := fun i T => ∀ j, j < 7 → W.cell? ((a.add (i * 7)).add j) = some (nC T j)) (0, 0, 0, 0) (fun i hi => by
      obtain ⟨cs, y, hcl, hcc, ht, _⟩ := hel i hi
      obtain ⟨T, hT⟩ := readN hcl ht
      exact ⟨T, fun j hj => (hcc j hj).trans (hT j hj)⟩)
    exact ⟨some a, len, cap, T, rfl, mkRs hl hm (slice_spot Try.underlying22 hv) hT, by unfold reachBytes at hb; omega⟩
set_option maxRecDepth 100000 in
theorem openCs {base fuel : Nat} {v : Value} {x : DataW H × List MemPlace} (hv : Cell.okWide Try.prog W .any base 25 v) (h : DataW.trod enc Try.prog W 0 (fun _ => true) true fuel 25 [v] = some x) (hz : ∀ q ∈ x.1.weights Try.prog 25, q ≤ reachBytes) :
    ∃ (o : Option Addr) (n c : Nat) (E : Nat → Int × Int), v = .slice o n c ∧ Cls W (.slice o n c) n E ∧ n ≤ 8796093022208 ∧ ∀ i, i < n → rng (E i).1 ∧ rng (E i).2 := by
  rcases open_rows Try.underlying25 Try.cellsC h with ⟨rfl, _⟩ | ⟨a, len, cap, es, rs, m, rfl, hx, hl, hm, hes, hel⟩
  · exact ⟨none, 0, 0, fun _ => (0, 0), rfl, Or.inl ⟨rfl, rfl⟩, by decide, fun i hi => by omega⟩
  · have hb := (w_head Try.underlying25 hx hz).1
    rw [Try.bytesC, hes] at hb
    obtain ⟨E, hE⟩ := pick (P := fun i (E : Int × Int) => (∀ j, j < 2 → W.cell? ((a.add (i * 2)).add j) = some (pC (.int .i64 E.1, .int .i64 E.2) j)) ∧ rng E.1 ∧ rng E.2) (0, 0) (fun i hi => by
      obtain ⟨cs, y, hcl, hcc, ht, _⟩ := hel i hi
      obtain ⟨p, rfl, h1, h2⟩ := readC hcl ht
      refine ⟨p, fun j hj => (hcc j hj).trans ?_, h1, h2⟩
      have hj' : j = 0 ∨ j = 1 := by omega
      rcases hj' with rfl | rfl <;> rfl)
    exact ⟨some a, len, cap, E, rfl, mkRs hl hm (slice_spot Try.underlying25 hv) (fun i hi => (hE i hi).1), by unfold reachBytes at hb; omega, fun i hi => (hE i hi).2⟩
set_option maxRecDepth 100000 in
theorem openLs {base fuel : Nat} {v : Value} {x : DataW H × List MemPlace} (hv : Cell.okWide Try.prog W .any base 24 v) (h : DataW.trod enc Try.prog W 0 (fun _ => true) true fuel 24 [v] = some x) (hz : ∀ q ∈ x.1.weights Try.prog 24, q ≤ reachBytes) :
    ∃ (o : Option Addr) (n c : Nat) (f : Nat → Value × Value) (ni nt : Nat → Nat) (In Tb : Nat → Nat → Int), v = .slice o n c ∧ LkQ W (.slice o n c) n f ni nt In Tb ∧ n ≤ 2932031007402 ∧ ∀ i, i < n → ni i ≤ 17592186044416 ∧ nt i ≤ 17592186044416 := by
  rcases open_rows Try.underlying24 Try.cellsL h with ⟨rfl, _⟩ | ⟨a, len, cap, es, rs, m, rfl, hx, hl, hm, hes, hel⟩
  · exact ⟨none, 0, 0, fun _ => (undef, undef), fun _ => 0, fun _ => 0, fun _ _ => 0, fun _ _ => 0, rfl, ⟨Or.inl ⟨rfl, rfl⟩, fun i hi => by omega⟩, by decide, fun i hi => by omega⟩
  · have hw := w_head Try.underlying24 hx hz
    have hb := hw.1
    rw [Try.bytesL, hes] at hb
    obtain ⟨E, hE⟩ := pick (P := fun i (E : (Value × Value) × (Nat × Nat) × (Nat → Int) × (Nat → Int)) => (∀ j, j < 2 → W.cell? ((a.add (i * 2)).add j) = some (pC E.1 j)) ∧ (Zq W E.1.1 E.2.1.1 E.2.2.1 ∧ Zq W E.1.2 E.2.1.2 E.2.2.2) ∧ E.2.1.1 ≤ 17592186044416 ∧ E.2.1.2 ≤ 17592186044416) ((undef, undef), (0, 0), fun _ => 0, fun _ => 0) (fun i hi => by
      obtain ⟨cs, y, hcl, hcc, ht, hy⟩ := hel i hi
      obtain ⟨u, v, m', yy, zz, rfl, hyy, h1, h2⟩ := readL hcl ht
      have hwi := hw.2 i y.1 hy
      rw [hyy] at hwi
      have hT : (Try.prog.fieldsOf 53).toList.map (·.type) = [23, 23] := by kernel_rfl
      have hwe : ∀ q ∈ DataW.weightsEach Try.prog [23, 23] [yy.1, zz.1], q ≤ reachBytes := fun q hq => hwi q (by
        show q ∈ DataW.weights Try.prog 53 (.agg [yy.1, zz.1])
        unfold DataW.weights
        rw [Try.undL]
        show q ∈ DataW.weightsEach Try.prog ((Try.prog.fieldsOf 53).toList.map (·.type)) [yy.1, zz.1]
        rw [hT]
        exact hq)
      obtain ⟨n1, f1, z1, b1⟩ := openZq h1 (fun q hq => hwe q (wEach (i := 0) (t := 23) (d := yy.1) rfl rfl q hq))
      obtain ⟨n2, f2, z2, b2⟩ := openZq h2 (fun q hq => hwe q (wEach (i := 1) (t := 23) (d := zz.1) rfl rfl q hq))
      refine ⟨((u, v), (n1, n2), f1, f2), fun j hj => (hcc j hj).trans ?_, ⟨z1, z2⟩, b1, b2⟩
      have hj' : j = 0 ∨ j = 1 := by omega
      rcases hj' with rfl | rfl <;> rfl)
    exact ⟨some a, len, cap, fun i => (E i).1, fun i => (E i).2.1.1, fun i => (E i).2.1.2, fun i => (E i).2.2.1, fun i => (E i).2.2.2, rfl, ⟨mkRs hl hm (slice_spot Try.underlying24 hv) (fun i hi => (hE i hi).1), fun i hi => (hE i hi).2.1⟩, by unfold reachBytes at hb; omega, fun i hi => (hE i hi).2.2⟩
set_option maxRecDepth 100000 in
theorem openGs {base fuel : Nat} {v : Value} {x : DataW H × List MemPlace} (hv : Cell.okWide Try.prog W .any base 23 v) (h : DataW.trod enc Try.prog W 0 (fun _ => true) true fuel 23 [v] = some x) (hz : ∀ q ∈ x.1.weights Try.prog 23, q ≤ reachBytes) :
    ∃ (o : Option Addr) (n c : Nat) (G : Nat → Int), v = .slice o n c ∧ Zs W (.slice o n c) n G ∧ n ≤ 17592186044416 := by
  obtain ⟨n, f, h1, h2⟩ := openZq h hz
  have h3 := h1.strong hv (fun a c e => by
    rcases open_rows Try.underlying23 Try.cellsI h with ⟨rfl, _⟩ | ⟨a', len, cap, es, rs, m, rfl, hx, hl, hm, hes, hel⟩
    · cases e
    · cases e; exact hm)
  obtain ⟨o, c, e⟩ := Rs.shape h3
  subst e
  exact ⟨o, n, c, f, rfl, h3, h2⟩
set_option maxRecDepth 100000 in
/-- A circuit that is read. -/
theorem openCi {base : Nat} {v : Value} {d : DataW H} {p : List MemPlace} (hv : Value.okWide Try.prog W .any base 27 v) (h : DataW.Trod enc Try.prog W 0 (fun _ => true) true 27 v d p) (hz : ∀ q ∈ d.weights Try.prog 27, q ≤ reachBytes) :
    ∃ (F A I : Int) (oN oG oL oE : Option Addr) (n cN g cG l cL m cE : Nat) (f : Nat → Value × Value) (ni nt : Nat → Nat) (In Tb : Nat → Nat → Int) (T : Nat → Int × Int × Int × Nat) (G : Nat → Int) (E : Nat → Int × Int),
      v = .agg #[.int .i64 F, .int .i64 A, .int .i64 I, .slice oN n cN, .slice oG g cG, .slice oL l cL, .slice oE m cE] ∧ (n ≤ 2513169434916 ∧ g ≤ 17592186044416 ∧ l ≤ 2932031007402 ∧ m ≤ 8796093022208) ∧ (∀ i, i < l → ni i ≤ 17592186044416 ∧ nt i ≤ 17592186044416) ∧ Rng F A I m E ∧
      CirQ W (.slice oN n cN) (.slice oG g cG) (.slice oL l cL) (.slice oE m cE) n T g G l f ni nt In Tb m E := by
  obtain ⟨cs, rfl, hsz, hrow⟩ : ∃ cs, v = .agg cs ∧ cs.size = Try.prog.cellsOf 27 ∧ Row.okWide Try.prog W .any base 27 cs := by
    simpa [Value.okWide, Try.undCi] using hv
  rw [Try.cellsCi] at hsz
  obtain ⟨li⟩ := cs
  obtain ⟨c0, c1, c2, c3, c4, c5, c6, rfl⟩ := list7c li hsz
  obtain ⟨fuel, hf0⟩ := h
  obtain ⟨xs, m, hx, hxl, hg⟩ := field_get Try.undCi [(3, 0), (3, 1), (3, 2), (22, 3), (23, 4), (24, 5), (25, 6)] (by kernel_rfl) hf0
  have g0 := hg 0 _ _ rfl; have g1 := hg 1 _ _ rfl; have g2 := hg 2 _ _ rfl; have g3 := hg 3 _ _ rfl; have g4 := hg 4 _ _ rfl; have g5 := hg 5 _ _ rfl; have g6 := hg 6 _ _ rfl
  rw [Try.cellsI] at g0 g1 g2
  rw [Try.cellsSN] at g3
  rw [Try.cellsSI] at g4
  rw [Try.cellsSL] at g5
  rw [Try.cellsSC] at g6
  obtain ⟨x0, x1, x2, x3, x4, x5, x6, rfl⟩ := list7c xs hxl
  have hT : (Try.prog.fieldsOf 27).toList.map (·.type) = [3, 3, 3, 22, 23, 24, 25] := by kernel_rfl
  have hd : d = .agg [x0.1, x1.1, x2.1, x3.1, x4.1, x5.1, x6.1] := hx
  have hwe : ∀ q ∈ DataW.weightsEach Try.prog [3, 3, 3, 22, 23, 24, 25] [x0.1, x1.1, x2.1, x3.1, x4.1, x5.1, x6.1], q ≤ reachBytes := fun q hq => hz q (by
    rw [hd]
    unfold DataW.weights
    rw [Try.undCi]
    show q ∈ DataW.weightsEach Try.prog ((Try.prog.fieldsOf 27).toList.map (·.type)) _
    rw [hT]
    exact hq)
  have hok : ∀ (j : Nat) (t : TypeId) (c : Value), (Try.prog.cellTypes Try.prog.depth 27).bind (fun ts => ts[j % ts.length]?) = some t → (#[c0, c1, c2, c3, c4, c5, c6] : Array Value)[j]? = some c → Cell.okWide Try.prog W .any base t c := by
    intro j t c hts' hc
    obtain ⟨ts, hts, _, hall⟩ := hrow
    obtain ⟨u, hu, hcell⟩ := hall j c hc
    rw [hts, Option.bind_some, hu] at hts'
    cases hts'
    exact hcell
  obtain ⟨F, rfl, hF⟩ := readI g0
  obtain ⟨A, rfl, hA⟩ := readI g1
  obtain ⟨I, rfl, hI⟩ := readI g2
  obtain ⟨oN, n, cN, T, rfl, hN, bN⟩ := openNs (hok 3 22 c3 (by kernel_rfl) rfl) g3 (fun q hq => hwe q (wEach (i := 3) (t := 22) (d := x3.1) rfl rfl q hq))
  obtain ⟨oG, g, cG, G, rfl, hGs, bG⟩ := openGs (hok 4 23 c4 (by kernel_rfl) rfl) g4 (fun q hq => hwe q (wEach (i := 4) (t := 23) (d := x4.1) rfl rfl q hq))
  obtain ⟨oL, l, cL, f, ni, nt, In, Tb, rfl, hL, bL, bI⟩ := openLs (hok 5 24 c5 (by kernel_rfl) rfl) g5 (fun q hq => hwe q (wEach (i := 5) (t := 24) (d := x5.1) rfl rfl q hq))
  obtain ⟨oE, m', cE, E, rfl, hE, bE, rE⟩ := openCs (hok 6 25 c6 (by kernel_rfl) rfl) g6 (fun q hq => hwe q (wEach (i := 6) (t := 25) (d := x6.1) rfl rfl q hq))
  exact ⟨F, A, I, oN, oG, oL, oE, n, cN, g, cG, l, cL, m', cE, f, ni, nt, In, Tb, T, G, E, rfl, ⟨bN, bG, bL, bE⟩, bI, ⟨hF, hA, hI, rE⟩, hN, hGs, hL, hE⟩
end

end Go.Proofs.Ytbhljgenicahoaa
