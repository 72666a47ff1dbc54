import Derived.Test.YtokoknacolmhgaaGreatDoorRows
import Derived.Test.YtokoknacolmhgaaGreatDoorVK19
import Derived.Test.YtokoknacolmhgaaGreatDoorVMS26
import Derived.Test.YtokoknacolmhgaaGreatDoorVBA
import Derived.Test.YtokoknacolmhgaaGreatDoorTie
import Derived.Test.YtokoknacolmhgaaGreatDoorCards
import Derived.SevenTiedAt
import Derived.SizedLaws
import Derived.ProofKit
import Derived.Laws.IdiomArrays
namespace Go.Proofs.YtokoknacolmhgaaGreatDoor
open Go.ChangeShapes Go.WideShapes Go.ChangeAt Go.RowKit
open Go.WideMaps Go.WideElems
open Go.ChangeMaps (setBlock shut_map_nil open_string shut_string keptBut_setBlock frozen?_setBlock heap_setBlock_same)
theorem Tryz.own : ownKnob Tryz.prog.godebug = none := by kernel_rfl
theorem Tryz.cellsU : Tryz.prog.cellsOf 26 = 1 := by kernel_rfl
theorem Tryz.cellsE : Tryz.prog.cellsOf 28 = 4 := by kernel_rfl
theorem list4 {α : Type} (l : List α) (h : (⟨l⟩ : Array α).size = 4) : ∃ a b c d, l = [a, b, c, d] := by
 match l, h with
 | [a, b, c, d], _ => exact ⟨a, b, c, d, rfl⟩
set_option maxRecDepth 100000 in
theorem openE {H : Type} {enc : TypeId × Value → H} {W : World} {base : Nat} {v : Value} {d : DataW H} {p : List MemPlace} (hv : Value.okWide Tryz.prog W .any base 28 v) (h : DataW.Trod enc Tryz.prog W 0 (fun _ => true) true 28 v d p) :
  ∃ x : Nat, x < 115792089237316195423570985008687907853269984665640564039457584007913129639936 ∧ v = .agg #[.int .u64 (limb 0 x), .int .u64 (limb 1 x), .int .u64 (limb 2 x), .int .u64 (limb 3 x)] ∧ p = [] ∧ d = .agg [.lit (.int .u64 (limb 0 x)), .lit (.int .u64 (limb 1 x)), .lit (.int .u64 (limb 2 x)), .lit (.int .u64 (limb 3 x))] := by
 obtain ⟨cs, rfl, hsz, _⟩ : ∃ cs, v = .agg cs ∧ cs.size = Tryz.prog.cellsOf 28 ∧ Row.okWide Tryz.prog W .any base 28 cs := by
  simpa [Value.okWide, Tryz.underlying28] using hv
 rw [Tryz.cellsE] at hsz
 obtain ⟨l⟩ := cs
 obtain ⟨c0, c1, c2, c3, rfl⟩ := list4 l hsz
 obtain ⟨fuel, hf⟩ := h
 obtain ⟨y0, y1, y2, y3, m, hx, hy0, hy1, hy2, hy3⟩ := trod_array4 Tryz.underlying28 Tryz.cellsU hf
 obtain ⟨x0, e0, rfl, w0⟩ := DataW.trod_int Tryz.underlying26 hy0
 obtain ⟨x1, e1, rfl, w1⟩ := DataW.trod_int Tryz.underlying26 hy1
 obtain ⟨x2, e2, rfl, w2⟩ := DataW.trod_int Tryz.underlying26 hy2
 obtain ⟨x3, e3, rfl, w3⟩ := DataW.trod_int Tryz.underlying26 hy3
 simp at e0 e1 e2 e3
 subst e0 e1 e2 e3
 simp only [Prod.mk.injEq] at hx
 obtain ⟨rfl, rfl⟩ := hx
 have b0 := bounds_u64' w0; have b1 := bounds_u64' w1; have b2 := bounds_u64' w2; have b3 := bounds_u64' w3
 obtain ⟨n0, rfl⟩ := Int.eq_ofNat_of_zero_le b0.1
 obtain ⟨n1, rfl⟩ := Int.eq_ofNat_of_zero_le b1.1
 obtain ⟨n2, rfl⟩ := Int.eq_ofNat_of_zero_le b2.1
 obtain ⟨n3, rfl⟩ := Int.eq_ofNat_of_zero_le b3.1
 have g := limbs_of n0 n1 n2 n3 (by omega) (by omega) (by omega) (by omega) _ rfl
 refine ⟨_, g.2.2.2.2, ?_, rfl, ?_⟩
 ·rw [← g.1, ← g.2.1, ← g.2.2.1, ← g.2.2.2.1]
 ·rw [← g.1, ← g.2.1, ← g.2.2.1, ← g.2.2.2.1]
set_option maxRecDepth 100000 in
theorem readE {H : Type} {enc : TypeId × Value → H} (W : World) (x : Nat) (sp : Nat → Bool) : DataW.Trod enc Tryz.prog W 0 sp true 28 (.agg #[.int .u64 (limb 0 x), .int .u64 (limb 1 x), .int .u64 (limb 2 x), .int .u64 (limb 3 x)]) (DataW.agg [.lit (.int .u64 (limb 0 x)), .lit (.int .u64 (limb 1 x)), .lit (.int .u64 (limb 2 x)), .lit (.int .u64 (limb 3 x))]) [] := by
 have hw : ∀ i, (Lit.int .u64 (limb i x)).wf = true := fun i => wf_limb (limb i x) (limb_lt i x)
 exact ⟨2, by simp [DataW.trod, Value.cells, Tryz.underlying28, Tryz.underlying26, Tryz.cellsE, Tryz.cellsU, hw, show List.range 4 = [0, 1, 2, 3] from rfl]⟩
theorem Tryz.laidOut : laidOutB Tryz.prog = true := by kernel_rfl
theorem Tryz.cellsP : Tryz.prog.cellsOf 30 = 9 := by kernel_rfl
theorem Tryz.cellsT : Tryz.prog.cellsOf 4 = 1 := by kernel_rfl
theorem Tryz.undP : Tryz.prog.underlying 30 = some (.struct (Tryz.prog.fieldsOf 30)) := by kernel_rfl
theorem list9 {α : Type} (l : List α) (h : (⟨l⟩ : Array α).size = 9) : ∃ a b c d e f g h i, l = [a, b, c, d, e, f, g, h, i] := by
 match l, h with
 | [a, b, c, d, e, f, g, h, i], _ => exact ⟨a, b, c, d, e, f, g, h, i, rfl⟩
set_option maxRecDepth 100000 in
theorem openQ {H : Type} {enc : TypeId × Value → H} {W : World} {base m : Nat} {sp : Nat → Bool} {held : Bool} {c0 c1 c2 c3 : Value} {x : DataW H × List MemPlace} (h : DataW.trod enc Tryz.prog W base sp held m 28 [c0, c1, c2, c3] = some x) :
  ∃ x : Nat, x < 115792089237316195423570985008687907853269984665640564039457584007913129639936 ∧ c0 = .int .u64 (limb 0 x) ∧ c1 = .int .u64 (limb 1 x) ∧ c2 = .int .u64 (limb 2 x) ∧ c3 = .int .u64 (limb 3 x) := by
 obtain ⟨y0, y1, y2, y3, k, _, hy0, hy1, hy2, hy3⟩ := trod_array4 Tryz.underlying28 Tryz.cellsU h
 obtain ⟨x0, e0, _, w0⟩ := DataW.trod_int Tryz.underlying26 hy0
 obtain ⟨x1, e1, _, w1⟩ := DataW.trod_int Tryz.underlying26 hy1
 obtain ⟨x2, e2, _, w2⟩ := DataW.trod_int Tryz.underlying26 hy2
 obtain ⟨x3, e3, _, w3⟩ := DataW.trod_int Tryz.underlying26 hy3
 simp at e0 e1 e2 e3
 subst e0 e1 e2 e3
 have b0 := bounds_u64' w0; have b1 := bounds_u64' w1; have b2 := bounds_u64' w2; have b3 := bounds_u64' w3
 obtain ⟨n0, rfl⟩ := Int.eq_ofNat_of_zero_le b0.1
 obtain ⟨n1, rfl⟩ := Int.eq_ofNat_of_zero_le b1.1
 obtain ⟨n2, rfl⟩ := Int.eq_ofNat_of_zero_le b2.1
 obtain ⟨n3, rfl⟩ := Int.eq_ofNat_of_zero_le b3.1
 have g := limbs_of n0 n1 n2 n3 (by omega) (by omega) (by omega) (by omega) _ rfl
 refine ⟨_, g.2.2.2.2, ?_, ?_, ?_, ?_⟩
 ·rw [← g.1]
 ·rw [← g.2.1]
 ·rw [← g.2.2.1]
 ·rw [← g.2.2.2.1]
theorem openT {H : Type} {enc : TypeId × Value → H} {W : World} {base m : Nat} {sp : Nat → Bool} {held : Bool} {c : Value} {x : DataW H × List MemPlace} (h : DataW.trod enc Tryz.prog W base sp held m 4 [c] = some x) : ∃ b : Bool, c = .bool b := by
 obtain ⟨b, e, _⟩ := DataW.trod_bool Tryz.underlying4 h
 exact ⟨b, by simpa using e⟩
set_option maxRecDepth 100000 in
theorem openP {H : Type} {enc : TypeId × Value → H} {W : World} {base : Nat} {v : Value} {d : DataW H} {p : List MemPlace} (hv : Value.okWide Tryz.prog W .any base 30 v) (h : DataW.Trod enc Tryz.prog W 0 (fun _ => true) true 30 v d p) :
  ∃ (x y : Nat) (i : Bool), x < 115792089237316195423570985008687907853269984665640564039457584007913129639936 ∧ y < 115792089237316195423570985008687907853269984665640564039457584007913129639936 ∧ v = .agg #[.int .u64 (limb 0 x), .int .u64 (limb 1 x), .int .u64 (limb 2 x), .int .u64 (limb 3 x), .int .u64 (limb 0 y), .int .u64 (limb 1 y), .int .u64 (limb 2 y), .int .u64 (limb 3 y), .bool i] := by
 obtain ⟨cs, rfl, hsz, _⟩ : ∃ cs, v = .agg cs ∧ cs.size = Tryz.prog.cellsOf 30 ∧ Row.okWide Tryz.prog W .any base 30 cs := by
  simpa [Value.okWide, Tryz.undP] using hv
 rw [Tryz.cellsP] at hsz
 obtain ⟨l⟩ := cs
 obtain ⟨c0, c1, c2, c3, c4, c5, c6, c7, c8, rfl⟩ := list9 l hsz
 obtain ⟨fuel, hf0⟩ := h
 obtain ⟨n0, n1, n2, hl, _, _, _, t0, t1, t2, o0, o1, o2⟩ := fieldsPt
 obtain ⟨xs, m, _, _, _, hxl, hf⟩ := DataW.trod_struct Tryz.undP hf0
 have hget : ∀ i (f : Field), (Tryz.prog.fieldsOf 30).toList[i]? = some f → DataW.trod enc Tryz.prog W 0 (fun _ => true) true m f.type (([c0, c1, c2, c3, c4, c5, c6, c7, c8].drop f.offset).take (Tryz.prog.cellsOf f.type)) = xs[i]? := fun i f hi => hf i f (by simpa using hi)
 have hx3 : xs.length = 3 := by rw [hxl]; simpa using congrArg List.length hl
 rw [hl] at hget
 have g0 := hget 0 n0 rfl; have g1 := hget 1 n1 rfl; have g2 := hget 2 n2 rfl
 rw [t0, o0, Tryz.cellsE, List.getElem?_eq_getElem (by omega)] at g0
 rw [t1, o1, Tryz.cellsE, List.getElem?_eq_getElem (by omega)] at g1
 rw [t2, o2, Tryz.cellsT, List.getElem?_eq_getElem (by omega)] at g2
 obtain ⟨x, hx, rfl, rfl, rfl, rfl⟩ := openQ g0
 obtain ⟨y, hy, rfl, rfl, rfl, rfl⟩ := openQ g1
 obtain ⟨i, rfl⟩ := openT g2
 exact ⟨x, y, i, hx, hy, rfl⟩
theorem Tryz.cellsTm : Tryz.prog.cellsOf 43 = 13 := by kernel_rfl
theorem Tryz.undTm : Tryz.prog.underlying 43 = some (.struct (Tryz.prog.fieldsOf 43)) := by kernel_rfl
theorem list13 {α : Type} (l : List α) (h : (⟨l⟩ : Array α).size = 13) : ∃ c0 c1 c2 c3 c4 c5 c6 c7 c8 c9 c10 c11 c12, l = [c0, c1, c2, c3, c4, c5, c6, c7, c8, c9, c10, c11, c12] := by
 match l, h with
 | [c0, c1, c2, c3, c4, c5, c6, c7, c8, c9, c10, c11, c12], _ => exact ⟨c0, c1, c2, c3, c4, c5, c6, c7, c8, c9, c10, c11, c12, rfl⟩
set_option maxRecDepth 100000 in
theorem openTm {H : Type} {enc : TypeId × Value → H} {W : World} {base m : Nat} {sp : Nat → Bool} {held : Bool} {c0 c1 c2 c3 c4 c5 c6 c7 c8 c9 c10 c11 c12 : Value} {x : DataW H × List MemPlace} (h : DataW.trod enc Tryz.prog W base sp held m 43 [c0, c1, c2, c3, c4, c5, c6, c7, c8, c9, c10, c11, c12] = some x) :
  ∃ (T : Nat × Nat × Nat × Bool), (T.1 < 115792089237316195423570985008687907853269984665640564039457584007913129639936 ∧ T.2.1 < 115792089237316195423570985008687907853269984665640564039457584007913129639936 ∧ T.2.2.1 < 115792089237316195423570985008687907853269984665640564039457584007913129639936) ∧ ∀ j, j < 13 → [c0, c1, c2, c3, c4, c5, c6, c7, c8, c9, c10, c11, c12][j]? = some (tC T j) := by
 obtain ⟨n0, n1, hl, _, _, t0, t1, o0, o1⟩ := fieldsTm
 obtain ⟨xs, m, _, _, _, hxl, hf⟩ := DataW.trod_struct Tryz.undTm h
 have hget : ∀ i (f : Field), (Tryz.prog.fieldsOf 43).toList[i]? = some f → DataW.trod enc Tryz.prog W base sp held m f.type (([c0, c1, c2, c3, c4, c5, c6, c7, c8, c9, c10, c11, c12].drop f.offset).take (Tryz.prog.cellsOf f.type)) = xs[i]? := fun i f hi => hf i f (by simpa using hi)
 have hx2 : xs.length = 2 := by rw [hxl]; simpa using congrArg List.length hl
 rw [hl] at hget
 have g0 := hget 0 n0 rfl; have g1 := hget 1 n1 rfl
 rw [t0, o0, Tryz.cellsE, List.getElem?_eq_getElem (by omega)] at g0
 rw [t1, o1, Tryz.cellsP, List.getElem?_eq_getElem (by omega)] at g1
 obtain ⟨K, hK, rfl, rfl, rfl, rfl⟩ := openQ g0
 obtain ⟨p0, p1, p2, pl, _, _, _, u0, u1, u2, q0, q1, q2⟩ := fieldsPt
 obtain ⟨ys, m', _, _, _, hyl, hf2⟩ := DataW.trod_struct Tryz.undP g1
 have hget2 : ∀ i (f : Field), (Tryz.prog.fieldsOf 30).toList[i]? = some f → DataW.trod enc Tryz.prog W base sp held m' f.type (([c4, c5, c6, c7, c8, c9, c10, c11, c12].drop f.offset).take (Tryz.prog.cellsOf f.type)) = ys[i]? := fun i f hi => hf2 i f (by simpa using hi)
 have hy3 : ys.length = 3 := by rw [hyl]; simpa using congrArg List.length pl
 rw [pl] at hget2
 have k0 := hget2 0 p0 rfl; have k1 := hget2 1 p1 rfl; have k2 := hget2 2 p2 rfl
 rw [u0, q0, Tryz.cellsE, List.getElem?_eq_getElem (by omega)] at k0
 rw [u1, q1, Tryz.cellsE, List.getElem?_eq_getElem (by omega)] at k1
 rw [u2, q2, Tryz.cellsT, List.getElem?_eq_getElem (by omega)] at k2
 obtain ⟨X, hX, rfl, rfl, rfl, rfl⟩ := openQ k0
 obtain ⟨Y, hY, rfl, rfl, rfl, rfl⟩ := openQ k1
 obtain ⟨I, rfl⟩ := openT k2
 refine ⟨(K, X, Y, I), ⟨hK, hX, hY⟩, fun j hj => ?_⟩
 have hj' : j = 0 ∨ j = 1 ∨ j = 2 ∨ j = 3 ∨ j = 4 ∨ j = 5 ∨ j = 6 ∨ j = 7 ∨ j = 8 ∨ j = 9 ∨ j = 10 ∨ j = 11 ∨ j = 12 := by omega
 rcases hj' with rfl | rfl | rfl | rfl | rfl | rfl | rfl | rfl | rfl | rfl | rfl | rfl | rfl <;> rfl
set_option maxRecDepth 100000 in
theorem openR {H : Type} {enc : TypeId × Value → H} {W : World} {base : Nat} {v : Value} {d : DataW H} {p : List MemPlace} (hv : Value.okWide Tryz.prog W .any base 22 v) (h : DataW.Trod enc Tryz.prog W 0 (fun _ => true) true 22 v d p) :
  ∃ (n : Nat) (T : Nat → Nat × Nat × Nat × Bool), Rs W v 13 n (fun i => tC (T i)) ∧ ∀ i, i < n → (T i).1 < 115792089237316195423570985008687907853269984665640564039457584007913129639936 ∧ (T i).2.1 < 115792089237316195423570985008687907853269984665640564039457584007913129639936 ∧ (T i).2.2.1 < 115792089237316195423570985008687907853269984665640564039457584007913129639936 := by
 obtain ⟨a0, len, cap, rfl⟩ := okWide_slice Tryz.underlying22 hv
 obtain ⟨fuel, hf⟩ := h
 rcases DataW.trod_slice Tryz.underlying22 hf with ⟨hcs, hx⟩ | ⟨a, len', cap', elems, rest, m, _, hcs, hx, _, hl, hm, hlen, hel, _, _⟩
 ·simp [Value.cells] at hcs
  obtain ⟨rfl, rfl, rfl⟩ := hcs
  exact ⟨0, fun _ => (0, 0, 0, false), Or.inl ⟨rfl, rfl⟩, fun i hi => by omega⟩
 ·simp [Value.cells] at hcs
  obtain ⟨rfl, rfl, rfl⟩ := hcs
  have hb : a.block < W.heap.size ∧ a.spot = none := by
   have h1 : Value.okWide Tryz.prog W .any base 22 (.slice (some a) len cap) := hv
   simp only [Value.okWide, Cell.okWide, Cell.ok, Tryz.underlying22] at h1
   obtain ⟨_, _, _, hsp, row, cells, hs, _⟩ := h1
   refine ⟨?_, hsp⟩
   rcases Nat.lt_or_ge a.block W.heap.size with h | h
   ·exact h
   ·simp [World.shape?, Array.getElem?_eq_none h] at hs
  obtain ⟨hbl, hsp⟩ := hb
  obtain ⟨b, o, sp⟩ := a
  dsimp only at hsp hbl
  subst hsp
  have each : ∀ i, i < len → ∃ T : Nat × Nat × Nat × Bool, (T.1 < 115792089237316195423570985008687907853269984665640564039457584007913129639936 ∧ T.2.1 < 115792089237316195423570985008687907853269984665640564039457584007913129639936 ∧ T.2.2.1 < 115792089237316195423570985008687907853269984665640564039457584007913129639936) ∧ ∀ j, j < 13 → W.cell? ⟨b, o + i * 13 + j, none⟩ = some (tC T j) := by
   intro i hi
   have he := hel i hi
   rw [Tryz.cellsTm, List.getElem?_eq_getElem (by omega)] at he
   obtain ⟨cs, hcs, ht⟩ := Option.bind_eq_some_iff.1 he
   obtain ⟨_, hcl, hcc⟩ := World.cells?_some hcs
   obtain ⟨c0, c1, c2, c3, c4, c5, c6, c7, c8, c9, c10, c11, c12, rfl⟩ := list13 cs (by simpa using hcl)
   obtain ⟨T, hT, hc13⟩ := openTm ht
   refine ⟨T, hT, fun j hj => ?_⟩
   have hc := hcc j hj
   have hadd : ((⟨b, o, none⟩ : Addr).add (i * 13)).add j = ⟨b, o + i * 13 + j, none⟩ := by rw [add_plain, add_plain]
   rw [hadd] at hc
   rw [hc]
   exact hc13 j hj
  refine ⟨len, fun i => if h : i < len then (each i h).choose else (0, 0, 0, false), Or.inr ⟨b, o, cap, rfl, hl, hm, hbl, fun i hi j hj => ?_⟩, fun i hi => ?_⟩
  ·dsimp only
   rw [dif_pos hi]
   exact (each i hi).choose_spec.2 j hj
  ·dsimp only
   rw [dif_pos hi]
   exact (each i hi).choose_spec.1
theorem Tryz.bytesTm : Tryz.prog.bytesOf 43 = 104 := by kernel_rfl
set_option maxRecDepth 100000 in
theorem openW {H : Type} {enc : TypeId × Value → H} {W : World} {base : Nat} {v : Value} {d : DataW H} {p : List MemPlace} (hv : Value.okWide Tryz.prog W .any base 22 v) (h : DataW.Trod enc Tryz.prog W 0 (fun _ => true) true 22 v d p)
  (hz : ∀ el sp, d = .slice el sp → (el.length + sp.length) * Tryz.prog.bytesOf 43 ≤ reachBytes) :
  ∃ (n : Nat) (T : Nat → Nat × Nat × Nat × Bool), Rs W v 13 n (fun i => tC (T i)) ∧ (∀ i, i < n → (T i).1 < 115792089237316195423570985008687907853269984665640564039457584007913129639936 ∧ (T i).2.1 < 115792089237316195423570985008687907853269984665640564039457584007913129639936 ∧ (T i).2.2.1 < 115792089237316195423570985008687907853269984665640564039457584007913129639936) ∧ n ≤ 140737488351232 := by
 obtain ⟨n, T, hR, hT⟩ := openR hv h
 refine ⟨n, T, hR, hT, ?_⟩
 obtain ⟨fuel, hf⟩ := h
 rcases DataW.trod_slice Tryz.underlying22 hf with ⟨hcs, _⟩ | ⟨a, len', cap', elems, rest, m, _, hcs, hx, _, hl, hm, hlen, _⟩
 ·rcases hR with ⟨_, h0⟩ | ⟨b, o, c, rfl, _⟩
  ·omega
  ·simp [Value.cells] at hcs
 ·have hr := hz _ _ (congrArg Prod.fst hx)
  rw [Tryz.bytesTm] at hr
  simp only [List.length_map, reachBytes] at hr
  rcases hR with ⟨rfl, h0⟩ | ⟨b, o, c, rfl, _⟩
  ·omega
  ·simp [Value.cells] at hcs
   omega
theorem door_met (os : Os) (args : Array Value) : laidMetH Tryz.prog laidF ((World.doorLaid Tryz.prog 400 os).forCall (fun _ _ => 0) ⟨#[], args, []⟩).memory :=
 laidMetH_of_parts3 (fuel := 8) (laidMet_of_run' 8 (by kernel_rfl) (by kernel_rfl)) (by kernel_rfl) (by kernel_rfl)
set_option maxHeartbeats 1000000 in
set_option maxRecDepth 100000 in
theorem lifted (os : Os) (started : os.Started) (H : Type) (enc : TypeId × Value → H) :
  ReturnsInHanded {} Tryz.checked os 5 .any (fun w args => (Rows.msmLinearSpec.pre enc Tryz.prog Tryz.f5 [] false w args ∧ laidMetH Tryz.prog laidF w) ∧ sizedMet enc Tryz.prog Tryz.f5 (OpenSpec.ofChange Rows.msmLinearSpec) false w args)
   (Rows.msmLinearSpec.post enc Tryz.prog Tryz.f5 false true false false) := by
 refine returnsInHanded_of_change_and (C := Tryz.checked) (X := fun w _ => laidMetH Tryz.prog laidF w) (fun _ _ _ hh h => h.of_heap hh) Tryz.own started (by kernel_rfl) Tryz.func5
  (ChangeSpec.witness_shaped (enc := enc) (C := Tryz.checked) (os := os) (X := fun w _ => laidMetH Tryz.prog laidF w) false (World.doorLaid Tryz.prog 400 os) #[.int .i64 0, .slice none 0 0, .slice none 0 0, .agg #[.int .u64 0, .int .u64 0, .int .u64 0, .int .u64 0]] 8 rfl (World.shaped_of_RefB (by kernel_rfl) (by kernel_rfl)) (by kernel_rfl) (by kernel_rfl) (by kernel_rfl) (door_met os _)) ?_
 intro W base args ds gs before hval0 hW _ hsz0 hL _
 have hval : ∀ (j : Nat) t v, Tryz.f5.params[j]? = some t → args[j]? = some v → Value.okWide Tryz.prog W .any base t v := hval0
 have hW' := hW
 obtain ⟨p, q, hA0, hV, rfl, _, _⟩ := hW
 have hA : DataW.TrodAll enc Tryz.prog W 0 (fun _ => true) true Tryz.f5.params.toList args.toList ds p := hA0
 rw [Tryz.params5] at hA hval
 have hsz : (DataW.weightsEach Tryz.prog (Tryz.f5.params.toList ++ Rows.msmLinearSpec.plain.varTypes Tryz.prog) (ds ++ gs)).all (· ≤ reachBytes) = true := hsz0
 clear hsz0
 rw [Tryz.params5] at hsz
 obtain ⟨v0, v1, v2, v3, d0, d1, d2, d3, p0, p1, p2, p3, rfl, rfl, rfl, h0, h1, h2, h3⟩ := trodAll_four hA
 obtain ⟨rfl, rfl⟩ := trodVars_none hV
 obtain ⟨x0, rfl, rfl, rfl, hx0⟩ := open_int Tryz.underlying3 (hval 0 3 v0 rfl rfl) h0
 have h1k := h1
 obtain ⟨n1, T1, hR1, hT1, hn1⟩ := openW (hval 1 22 v1 rfl rfl) h1 (fun el sp hd => by subst hd; exact sized_slice hsz (j := 1) rfl rfl Tryz.underlying22)
 have h2k := h2
 obtain ⟨n2, T2, hR2, hT2, hn2⟩ := openW (hval 2 22 v2 rfl rfl) h2 (fun el sp hd => by subst hd; exact sized_slice hsz (j := 2) rfl rfl Tryz.underlying22)
 obtain ⟨x3, hx3, rfl, rfl, rfl⟩ := openE (hval 3 28 v3 rfl rfl) h3
 clear hA0 hval0
 simp only [List.append_nil, List.nil_append] at hW'
 refine (mlin_walk x0 n1 v1 T1 n2 v2 T2 x3 hx3 hT1 hT2 ⟨hn1, hn2⟩ W (globC_of_laid hL) hR1 hR2).mono fun e W' ⟨he, hb⟩ => ?_
 subst he
 have r1 : (Rows.msmLinearSpec.fn H ([.lit (.int .i64 x0), d1, d2, DataW.agg [.lit (.int .u64 (limb 0 x3)), .lit (.int .u64 (limb 1 x3)), .lit (.int .u64 (limb 2 x3)), .lit (.int .u64 (limb 3 x3))]] ++ [])).results = [.lit (.bool true)] := by simp [Rows.msmLinearSpec]
 have a1 : (Rows.msmLinearSpec.fn H ([.lit (.int .i64 x0), d1, d2, DataW.agg [.lit (.int .u64 (limb 0 x3)), .lit (.int .u64 (limb 1 x3)), .lit (.int .u64 (limb 2 x3)), .lit (.int .u64 (limb 3 x3))]] ++ [])).args = [.lit (.int .i64 x0), d1, d2, DataW.agg [.lit (.int .u64 (limb 0 x3)), .lit (.int .u64 (limb 1 x3)), .lit (.int .u64 (limb 2 x3)), .lit (.int .u64 (limb 3 x3))]] := by simp [Rows.msmLinearSpec]
 have v1 : (Rows.msmLinearSpec.fn H ([.lit (.int .i64 x0), d1, d2, DataW.agg [.lit (.int .u64 (limb 0 x3)), .lit (.int .u64 (limb 1 x3)), .lit (.int .u64 (limb 2 x3)), .lit (.int .u64 (limb 3 x3))]] ++ [])).vars = [] := by simp [Rows.msmLinearSpec]
 refine ⟨_, rfl, _, _, _, [], ([] ++ (p1 ++ (p2 ++ []))), [], hW', ?_, ?_, ?_, hb.frame _, fun h => by cases h⟩
 ·rw [r1]; exact trodAll_mk1 (shut_bool Tryz.underlying4 true)
 ·rw [a1]; exact trodAll_mk4 (shut_int Tryz.underlying3 hx0) (Below.trod Tryz.laidOut (by kernel_rfl) (of_decide_eq_true (by kernel_rfl)) h1k hb (fun x hx => by simpa using hW'.lt x (by simp [hx]))) (Below.trod Tryz.laidOut (by kernel_rfl) (of_decide_eq_true (by kernel_rfl)) h2k hb (fun x hx => by simpa using hW'.lt x (by simp [hx]))) (readE W' x3 _)
 ·rw [v1]; rfl
theorem msmLinear_holds : Rows.MsmLinearSaid :=
 OpenClaim.holds_of_wide 5 Tryz.f5 rfl rfl rfl rfl rfl rfl rfl ⟨rfl, rfl, rfl, rfl, rfl⟩ rfl rfl rfl rfl rfl (by kernel_rfl) Tryz.func5 (by kernel_rfl)
  (of_decide_eq_true (by kernel_rfl)) (by unfold Func.isWrapper; first | (rw [if_pos (by decide +kernel)]; kernel_rfl) | (rw [if_neg (by decide +kernel)]; exact ⟨rfl, rfl⟩))
  (fun os started H enc _ => lifted os started H enc)
theorem msmLinear_card : Rows.MsmLinearCardSaid :=
 Claim7.holds_tied_plain_at .later [] [.data, .data, .data] true (true, "1caefdd27b5d352156a54170720e4dafe2cec5fa440c114d99297d2a1e49aec9") false
  msmLinear_holds (fun _ h => by cases h) (by kernel_rfl) (fun _ h => by cases h) msmLinear_row_tie rfl ⟨rfl, rfl⟩ (by kernel_rfl) rfl
  (fun f fn hf hfn => by
   obtain rfl : f = 5 := Option.some.inj ((show Tryz.prog.funcNamed "sigil/sigillaw05.MsmLinear" = some 5 by kernel_rfl).symm.trans hf) |>.symm
   obtain rfl : fn = Tryz.f5 := (Option.some.inj (Tryz.func5.symm.trans hfn)).symm
   exact ⟨by kernel_rfl, fun j t ht => by
    rw [Tryz.params5] at ht
    have hm : t ∈ [3, 22, 22, 28] := by simpa using Array.mem_of_getElem? ht
    have hall : ([3, 22, 22, 28].all fun u => !Tryz.prog.wantsStandIn u) = true := by kernel_rfl
    exact (show Tryz.prog.wantsStandIn t = false by simpa using List.all_eq_true.1 hall t hm)⟩)
  (by kernel_rfl)
#print axioms msmLinear_card
end Go.Proofs.YtokoknacolmhgaaGreatDoor
