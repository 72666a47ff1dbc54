/- MsmSteps of anything. -/
import Derived.Test.YtokoknacolmhgaaGreatDoorWMS41
import Derived.Test.YtokoknacolmhgaaGreatDoorRows
import Derived.Test.YtokoknacolmhgaaGreatDoorWK19
import Derived.Test.YtokoknacolmhgaaGreatDoorWXA
import Derived.Test.YtokoknacolmhgaaGreatDoorTie
import Derived.Test.YtokoknacolmhgaaGreatDoorCards
import Derived.SevenTiedAt
import Derived.SizedLaws
import Derived.ProofKit
import Derived.Laws.IdiomArrays
namespace Go.Proofs.YtokoknacolmhgaaGreatDoor
open Go.RowKit
theorem steps_walk (c : Int) (n : Nat) (v : Value) (U : Nat → Int × Nat × Nat × Nat × Bool) (hU : ∀ i, i < n → opOk (U i)) (w : World) (hg : GlobC w) (hv : Rs w v 14 n (fun i => oC (U i))) :
  Calls Tryz.prog 4 #[.int .i64 c, v] w fun e w' => e = .returned (.bool true) ∧ Below w.heap.size w w' := by
 obtain ⟨oa, cn, rfl⟩ := hv.shape
 by_cases hc : c < 0 ∨ 4 ≤ c
 ·exact steps_out2 c n cn oa hc hv.long w hg
 ·obtain ⟨d, rfl⟩ : ∃ d : Nat, c = (d : Int) := ⟨c.toNat, by omega⟩
  have hd : d < 4 := by omega
  by_cases hn : n ≤ 30
  ·exact steps_in d (xc d) n n cn oa U hd (xor_c d hd) (xc_lt hd) (Or.inl ⟨rfl, hn⟩) hU w hg hv
  ·exact steps_in d (xc d) n 30 cn oa U hd (xor_c d hd) (xc_lt hd) (Or.inr ⟨rfl, by omega⟩) (fun i hi => hU i (by omega)) w hg hv
end Go.Proofs.YtokoknacolmhgaaGreatDoor
/- MsmSteps: for every curve's number and any script the call returns true: sums that are put off answer, step by step, and have terms and values as the reference does. Condition: the variables of packages field and curve read as the text lays them when the call begins (the card ties them). -/
namespace Go.Proofs.YtokoknacolmhgaaGreatDoor
open Go.ChangeShapes Go.WideShapes Go.ChangeAt Go.RowKit
open Go.WideMaps Go.WideElems
open Go.ChangeMaps (setBlock shut_map_nil open_string shut_string keptBut_setBlock frozen?_setBlock heap_setBlock_same)
theorem Tryz.own : ownKnob Tryz.prog.godebug = none := by kernel_rfl
theorem Tryz.laidOut : laidOutB Tryz.prog = true := by kernel_rfl
theorem Tryz.cellsU : Tryz.prog.cellsOf 26 = 1 := by kernel_rfl
theorem Tryz.cellsE : Tryz.prog.cellsOf 28 = 4 := by kernel_rfl
theorem Tryz.cellsP : Tryz.prog.cellsOf 30 = 9 := by kernel_rfl
theorem Tryz.cellsT : Tryz.prog.cellsOf 4 = 1 := by kernel_rfl
theorem Tryz.undP : Tryz.prog.underlying 30 = some (.struct (Tryz.prog.fieldsOf 30)) := by kernel_rfl
theorem list9 {α : Type} (l : List α) (h : (⟨l⟩ : Array α).size = 9) : ∃ a b c d e f g h i, l = [a, b, c, d, e, f, g, h, i] := by
 match l, h with
 | [a, b, c, d, e, f, g, h, i], _ => exact ⟨a, b, c, d, e, f, g, h, i, rfl⟩
set_option maxRecDepth 100000 in
theorem openQ {H : Type} {enc : TypeId × Value → H} {W : World} {base m : Nat} {sp : Nat → Bool} {held : Bool} {c0 c1 c2 c3 : Value} {x : DataW H × List MemPlace} (h : DataW.trod enc Tryz.prog W base sp held m 28 [c0, c1, c2, c3] = some x) :
  ∃ x : Nat, x < 115792089237316195423570985008687907853269984665640564039457584007913129639936 ∧ c0 = .int .u64 (limb 0 x) ∧ c1 = .int .u64 (limb 1 x) ∧ c2 = .int .u64 (limb 2 x) ∧ c3 = .int .u64 (limb 3 x) := by
 obtain ⟨y0, y1, y2, y3, k, _, hy0, hy1, hy2, hy3⟩ := trod_array4 Tryz.underlying28 Tryz.cellsU h
 obtain ⟨x0, e0, _, w0⟩ := DataW.trod_int Tryz.underlying26 hy0
 obtain ⟨x1, e1, _, w1⟩ := DataW.trod_int Tryz.underlying26 hy1
 obtain ⟨x2, e2, _, w2⟩ := DataW.trod_int Tryz.underlying26 hy2
 obtain ⟨x3, e3, _, w3⟩ := DataW.trod_int Tryz.underlying26 hy3
 simp at e0 e1 e2 e3
 subst e0 e1 e2 e3
 have b0 := bounds_u64' w0; have b1 := bounds_u64' w1; have b2 := bounds_u64' w2; have b3 := bounds_u64' w3
 obtain ⟨n0, rfl⟩ := Int.eq_ofNat_of_zero_le b0.1
 obtain ⟨n1, rfl⟩ := Int.eq_ofNat_of_zero_le b1.1
 obtain ⟨n2, rfl⟩ := Int.eq_ofNat_of_zero_le b2.1
 obtain ⟨n3, rfl⟩ := Int.eq_ofNat_of_zero_le b3.1
 have g := limbs_of n0 n1 n2 n3 (by omega) (by omega) (by omega) (by omega) _ rfl
 refine ⟨_, g.2.2.2.2, ?_, ?_, ?_, ?_⟩
 ·rw [← g.1]
 ·rw [← g.2.1]
 ·rw [← g.2.2.1]
 ·rw [← g.2.2.2.1]
theorem openT {H : Type} {enc : TypeId × Value → H} {W : World} {base m : Nat} {sp : Nat → Bool} {held : Bool} {c : Value} {x : DataW H × List MemPlace} (h : DataW.trod enc Tryz.prog W base sp held m 4 [c] = some x) : ∃ b : Bool, c = .bool b := by
 obtain ⟨b, e, _⟩ := DataW.trod_bool Tryz.underlying4 h
 exact ⟨b, by simpa using e⟩
set_option maxRecDepth 100000 in
theorem openP {H : Type} {enc : TypeId × Value → H} {W : World} {base : Nat} {v : Value} {d : DataW H} {p : List MemPlace} (hv : Value.okWide Tryz.prog W .any base 30 v) (h : DataW.Trod enc Tryz.prog W 0 (fun _ => true) true 30 v d p) :
  ∃ (x y : Nat) (i : Bool), x < 115792089237316195423570985008687907853269984665640564039457584007913129639936 ∧ y < 115792089237316195423570985008687907853269984665640564039457584007913129639936 ∧ v = .agg #[.int .u64 (limb 0 x), .int .u64 (limb 1 x), .int .u64 (limb 2 x), .int .u64 (limb 3 x), .int .u64 (limb 0 y), .int .u64 (limb 1 y), .int .u64 (limb 2 y), .int .u64 (limb 3 y), .bool i] := by
 obtain ⟨cs, rfl, hsz, _⟩ : ∃ cs, v = .agg cs ∧ cs.size = Tryz.prog.cellsOf 30 ∧ Row.okWide Tryz.prog W .any base 30 cs := by
  simpa [Value.okWide, Tryz.undP] using hv
 rw [Tryz.cellsP] at hsz
 obtain ⟨l⟩ := cs
 obtain ⟨c0, c1, c2, c3, c4, c5, c6, c7, c8, rfl⟩ := list9 l hsz
 obtain ⟨fuel, hf0⟩ := h
 obtain ⟨n0, n1, n2, hl, _, _, _, t0, t1, t2, o0, o1, o2⟩ := fieldsPt
 obtain ⟨xs, m, _, _, _, hxl, hf⟩ := DataW.trod_struct Tryz.undP hf0
 have hget : ∀ i (f : Field), (Tryz.prog.fieldsOf 30).toList[i]? = some f → DataW.trod enc Tryz.prog W 0 (fun _ => true) true m f.type (([c0, c1, c2, c3, c4, c5, c6, c7, c8].drop f.offset).take (Tryz.prog.cellsOf f.type)) = xs[i]? := fun i f hi => hf i f (by simpa using hi)
 have hx3 : xs.length = 3 := by rw [hxl]; simpa using congrArg List.length hl
 rw [hl] at hget
 have g0 := hget 0 n0 rfl; have g1 := hget 1 n1 rfl; have g2 := hget 2 n2 rfl
 rw [t0, o0, Tryz.cellsE, List.getElem?_eq_getElem (by omega)] at g0
 rw [t1, o1, Tryz.cellsE, List.getElem?_eq_getElem (by omega)] at g1
 rw [t2, o2, Tryz.cellsT, List.getElem?_eq_getElem (by omega)] at g2
 obtain ⟨x, hx, rfl, rfl, rfl, rfl⟩ := openQ g0
 obtain ⟨y, hy, rfl, rfl, rfl, rfl⟩ := openQ g1
 obtain ⟨i, rfl⟩ := openT g2
 exact ⟨x, y, i, hx, hy, rfl⟩
theorem Tryz.cellsI : Tryz.prog.cellsOf 3 = 1 := by kernel_rfl
theorem Tryz.cellsOp : Tryz.prog.cellsOf 40 = 14 := by kernel_rfl
theorem Tryz.undOp : Tryz.prog.underlying 40 = some (.struct (Tryz.prog.fieldsOf 40)) := by kernel_rfl
theorem list14 {α : Type} (l : List α) (h : (⟨l⟩ : Array α).size = 14) : ∃ c0 c1 c2 c3 c4 c5 c6 c7 c8 c9 c10 c11 c12 c13, l = [c0, c1, c2, c3, c4, c5, c6, c7, c8, c9, c10, c11, c12, c13] := by
 match l, h with
 | [c0, c1, c2, c3, c4, c5, c6, c7, c8, c9, c10, c11, c12, c13], _ => exact ⟨c0, c1, c2, c3, c4, c5, c6, c7, c8, c9, c10, c11, c12, c13, rfl⟩
set_option maxRecDepth 100000 in
theorem openOp {H : Type} {enc : TypeId × Value → H} {W : World} {base m : Nat} {sp : Nat → Bool} {held : Bool} {c0 c1 c2 c3 c4 c5 c6 c7 c8 c9 c10 c11 c12 c13 : Value} {x : DataW H × List MemPlace} (h : DataW.trod enc Tryz.prog W base sp held m 40 [c0, c1, c2, c3, c4, c5, c6, c7, c8, c9, c10, c11, c12, c13] = some x) :
  ∃ U : Int × Nat × Nat × Nat × Bool, opOk U ∧ ∀ j, j < 14 → [c0, c1, c2, c3, c4, c5, c6, c7, c8, c9, c10, c11, c12, c13][j]? = some (oC U j) := by
 obtain ⟨n0, n1, n2, hl, t0, t1, t2, o0, o1, o2⟩ := fieldsOp
 obtain ⟨xs, m, _, _, _, hxl, hf⟩ := DataW.trod_struct Tryz.undOp h
 have hget : ∀ i (f : Field), (Tryz.prog.fieldsOf 40).toList[i]? = some f → DataW.trod enc Tryz.prog W base sp held m f.type (([c0, c1, c2, c3, c4, c5, c6, c7, c8, c9, c10, c11, c12, c13].drop f.offset).take (Tryz.prog.cellsOf f.type)) = xs[i]? := fun i f hi => hf i f (by simpa using hi)
 have hx3 : xs.length = 3 := by rw [hxl]; simpa using congrArg List.length hl
 rw [hl] at hget
 have g := hget 0 n0 rfl; have g0 := hget 1 n1 rfl; have g1 := hget 2 n2 rfl
 rw [t0, o0, Tryz.cellsI, List.getElem?_eq_getElem (by omega)] at g
 rw [t1, o1, Tryz.cellsE, List.getElem?_eq_getElem (by omega)] at g0
 rw [t2, o2, Tryz.cellsP, List.getElem?_eq_getElem (by omega)] at g1
 obtain ⟨A, eA, _, hA⟩ := DataW.trod_int Tryz.underlying3 g
 simp at eA
 subst eA
 obtain ⟨K, hK, rfl, rfl, rfl, rfl⟩ := openQ g0
 obtain ⟨p0, p1, p2, pl, _, _, _, u0, u1, u2, q0, q1, q2⟩ := fieldsPt
 obtain ⟨ys, m', _, _, _, hyl, hf2⟩ := DataW.trod_struct Tryz.undP g1
 have hget2 : ∀ i (f : Field), (Tryz.prog.fieldsOf 30).toList[i]? = some f → DataW.trod enc Tryz.prog W base sp held m' f.type (([c5, c6, c7, c8, c9, c10, c11, c12, c13].drop f.offset).take (Tryz.prog.cellsOf f.type)) = ys[i]? := fun i f hi => hf2 i f (by simpa using hi)
 have hy3 : ys.length = 3 := by rw [hyl]; simpa using congrArg List.length pl
 rw [pl] at hget2
 have k0 := hget2 0 p0 rfl; have k1 := hget2 1 p1 rfl; have k2 := hget2 2 p2 rfl
 rw [u0, q0, Tryz.cellsE, List.getElem?_eq_getElem (by omega)] at k0
 rw [u1, q1, Tryz.cellsE, List.getElem?_eq_getElem (by omega)] at k1
 rw [u2, q2, Tryz.cellsT, List.getElem?_eq_getElem (by omega)] at k2
 obtain ⟨X, hX, rfl, rfl, rfl, rfl⟩ := openQ k0
 obtain ⟨Y, hY, rfl, rfl, rfl, rfl⟩ := openQ k1
 obtain ⟨I, rfl⟩ := openT k2
 refine ⟨(A, K, X, Y, I), ⟨hA, hK, hX, hY⟩, fun j hj => ?_⟩
 have hj' : j = 0 ∨ j = 1 ∨ j = 2 ∨ j = 3 ∨ j = 4 ∨ j = 5 ∨ j = 6 ∨ j = 7 ∨ j = 8 ∨ j = 9 ∨ j = 10 ∨ j = 11 ∨ j = 12 ∨ j = 13 := by omega
 rcases hj' with rfl | rfl | rfl | rfl | rfl | rfl | rfl | rfl | rfl | rfl | rfl | rfl | rfl | rfl <;> rfl
set_option maxRecDepth 100000 in
theorem openO {H : Type} {enc : TypeId × Value → H} {W : World} {base : Nat} {v : Value} {d : DataW H} {p : List MemPlace} (hv : Value.okWide Tryz.prog W .any base 35 v) (h : DataW.Trod enc Tryz.prog W 0 (fun _ => true) true 35 v d p) :
  ∃ (n : Nat) (U : Nat → Int × Nat × Nat × Nat × Bool), Rs W v 14 n (fun i => oC (U i)) ∧ ∀ i, i < n → opOk (U i) := by
 obtain ⟨a0, len, cap, rfl⟩ := okWide_slice Tryz.underlying35 hv
 obtain ⟨fuel, hf⟩ := h
 rcases DataW.trod_slice Tryz.underlying35 hf with ⟨hcs, hx⟩ | ⟨a, len', cap', elems, rest, m, _, hcs, hx, _, hl, hm, hlen, hel, _, _⟩
 ·simp [Value.cells] at hcs
  obtain ⟨rfl, rfl, rfl⟩ := hcs
  exact ⟨0, fun _ => (0, 0, 0, 0, false), Or.inl ⟨rfl, rfl⟩, fun i hi => by omega⟩
 ·simp [Value.cells] at hcs
  obtain ⟨rfl, rfl, rfl⟩ := hcs
  have hb : a.block < W.heap.size ∧ a.spot = none := by
   have h1 : Value.okWide Tryz.prog W .any base 35 (.slice (some a) len cap) := hv
   simp only [Value.okWide, Cell.okWide, Cell.ok, Tryz.underlying35] at h1
   obtain ⟨_, _, _, hsp, row, cells, hs, _⟩ := h1
   refine ⟨?_, hsp⟩
   rcases Nat.lt_or_ge a.block W.heap.size with h | h
   ·exact h
   ·simp [World.shape?, Array.getElem?_eq_none h] at hs
  obtain ⟨hbl, hsp⟩ := hb
  obtain ⟨b, o, sp⟩ := a
  dsimp only at hsp hbl
  subst hsp
  have each : ∀ i, i < len → ∃ U : Int × Nat × Nat × Nat × Bool, opOk U ∧ ∀ j, j < 14 → W.cell? ⟨b, o + i * 14 + j, none⟩ = some (oC U j) := by
   intro i hi
   have he := hel i hi
   rw [Tryz.cellsOp, List.getElem?_eq_getElem (by omega)] at he
   obtain ⟨cs, hcs, ht⟩ := Option.bind_eq_some_iff.1 he
   obtain ⟨_, hcl, hcc⟩ := World.cells?_some hcs
   obtain ⟨c0, c1, c2, c3, c4, c5, c6, c7, c8, c9, c10, c11, c12, c13, rfl⟩ := list14 cs (by simpa using hcl)
   obtain ⟨U, hU, hc14⟩ := openOp ht
   refine ⟨U, hU, fun j hj => ?_⟩
   have hc := hcc j hj
   have hadd : ((⟨b, o, none⟩ : Addr).add (i * 14)).add j = ⟨b, o + i * 14 + j, none⟩ := by rw [add_plain, add_plain]
   rw [hadd] at hc
   rw [hc]
   exact hc14 j hj
  refine ⟨len, fun i => if h : i < len then (each i h).choose else (0, 0, 0, 0, false), Or.inr ⟨b, o, cap, rfl, hl, hm, hbl, fun i hi j hj => ?_⟩, fun i hi => ?_⟩
  ·dsimp only
   rw [dif_pos hi]
   exact (each i hi).choose_spec.2 j hj
  ·dsimp only
   rw [dif_pos hi]
   exact (each i hi).choose_spec.1
theorem door_met (os : Os) (args : Array Value) : laidMetH Tryz.prog laidF ((World.doorLaid Tryz.prog 400 os).forCall (fun _ _ => 0) ⟨#[], args, []⟩).memory :=
 laidMetH_of_parts3 (fuel := 8) (laidMet_of_run' 8 (by kernel_rfl) (by kernel_rfl)) (by kernel_rfl) (by kernel_rfl)
set_option maxHeartbeats 1000000 in
set_option maxRecDepth 100000 in
theorem lifted (os : Os) (started : os.Started) (H : Type) (enc : TypeId × Value → H) :
  ReturnsInHanded {} Tryz.checked os 4 .any (fun w args => (Rows.msmStepsSpec.pre enc Tryz.prog Tryz.f4 [] false w args ∧ laidMetH Tryz.prog laidF w) ∧ sizedMet enc Tryz.prog Tryz.f4 (OpenSpec.ofChange Rows.msmStepsSpec) false w args)
   (Rows.msmStepsSpec.post enc Tryz.prog Tryz.f4 false true false false) := by
 refine returnsInHanded_of_change_and (C := Tryz.checked) (X := fun w _ => laidMetH Tryz.prog laidF w) (fun _ _ _ hh h => h.of_heap hh) Tryz.own started (by kernel_rfl) Tryz.func4
  (ChangeSpec.witness_shaped (enc := enc) (C := Tryz.checked) (os := os) (X := fun w _ => laidMetH Tryz.prog laidF w) false (World.doorLaid Tryz.prog 400 os) #[.int .i64 0, .slice none 0 0] 8 rfl (World.shaped_of_RefB (by kernel_rfl) (by kernel_rfl)) (by kernel_rfl) (by kernel_rfl) (by kernel_rfl) (door_met os _)) ?_
 intro W base args ds gs before hval0 hW _ _ hL _
 have hval : ∀ (j : Nat) t v, Tryz.f4.params[j]? = some t → args[j]? = some v → Value.okWide Tryz.prog W .any base t v := hval0
 have hW' := hW
 obtain ⟨p, q, hA0, hV, rfl, _, _⟩ := hW
 have hA : DataW.TrodAll enc Tryz.prog W 0 (fun _ => true) true Tryz.f4.params.toList args.toList ds p := hA0
 rw [Tryz.params4] at hA hval
 obtain ⟨v0, v1, d0, d1, p0, p1, rfl, rfl, rfl, h0, h1⟩ := trodAll_two hA
 obtain ⟨rfl, rfl⟩ := trodVars_none hV
 obtain ⟨x0, rfl, rfl, rfl, hx0⟩ := open_int Tryz.underlying3 (hval 0 3 v0 rfl rfl) h0
 have h1k := h1
 obtain ⟨n1, U1, hR1, hU1⟩ := openO (hval 1 35 v1 rfl rfl) h1
 clear hA0 hval0
 simp only [List.append_nil, List.nil_append] at hW'
 refine (steps_walk x0 n1 v1 U1 hU1 W (globC_of_laid hL) hR1).mono fun e W' ⟨he, hb⟩ => ?_
 subst he
 have r1 : (Rows.msmStepsSpec.fn H ([.lit (.int .i64 x0), d1] ++ [])).results = [.lit (.bool true)] := by simp [Rows.msmStepsSpec]
 have a1 : (Rows.msmStepsSpec.fn H ([.lit (.int .i64 x0), d1] ++ [])).args = [.lit (.int .i64 x0), d1] := by simp [Rows.msmStepsSpec]
 have v1 : (Rows.msmStepsSpec.fn H ([.lit (.int .i64 x0), d1] ++ [])).vars = [] := by simp [Rows.msmStepsSpec]
 refine ⟨_, rfl, _, _, _, [], ([] ++ p1), [], hW', ?_, ?_, ?_, hb.frame _, fun h => by cases h⟩
 ·rw [r1]; exact trodAll_mk1 (shut_bool Tryz.underlying4 true)
 ·rw [a1]; exact trodAll_mk2 (shut_int Tryz.underlying3 hx0) (Below.trod Tryz.laidOut (by kernel_rfl) (of_decide_eq_true (by kernel_rfl)) h1k hb (fun x hx => by simpa using hW'.lt x (by simp [hx])))
 ·rw [v1]; rfl
theorem msmSteps_holds : Rows.MsmStepsSaid :=
 OpenClaim.holds_of_wide 4 Tryz.f4 rfl rfl rfl rfl rfl rfl rfl ⟨rfl, rfl, rfl, rfl, rfl⟩ rfl rfl rfl rfl rfl (by kernel_rfl) Tryz.func4 (by kernel_rfl)
  (of_decide_eq_true (by kernel_rfl)) (by unfold Func.isWrapper; first | (rw [if_pos (by decide +kernel)]; kernel_rfl) | (rw [if_neg (by decide +kernel)]; exact ⟨rfl, rfl⟩))
  (fun os started H enc _ => lifted os started H enc)
theorem msmSteps_card : Rows.MsmStepsCardSaid :=
 Claim7.holds_tied_plain_at .later [] [.data, .data, .data] true (true, "1caefdd27b5d352156a54170720e4dafe2cec5fa440c114d99297d2a1e49aec9") false
  msmSteps_holds (fun _ h => by cases h) (by kernel_rfl) (fun _ h => by cases h) msmSteps_row_tie rfl ⟨rfl, rfl⟩ (by kernel_rfl) rfl
  (fun f fn hf hfn => by
   obtain rfl : f = 4 := Option.some.inj ((show Tryz.prog.funcNamed "sigil/sigillaw05.MsmSteps" = some 4 by kernel_rfl).symm.trans hf) |>.symm
   obtain rfl : fn = Tryz.f4 := (Option.some.inj (Tryz.func4.symm.trans hfn)).symm
   exact ⟨by kernel_rfl, fun j t ht => by
    rw [Tryz.params4] at ht
    have hm : t ∈ [3, 35] := by simpa using Array.mem_of_getElem? ht
    have hall : ([3, 35].all fun u => !Tryz.prog.wantsStandIn u) = true := by kernel_rfl
    exact (show Tryz.prog.wantsStandIn t = false by simpa using List.all_eq_true.1 hall t hm)⟩)
  (by kernel_rfl)
#print axioms msmSteps_card
end Go.Proofs.YtokoknacolmhgaaGreatDoor
