/- CurveCounts: for every curve's number, any two scalars and any point the call returns true: so often and so often is so often together. Condition: the variables of packages field and curve read as the text lays them when the call begins (the card ties them). -/
import Derived.Test.YtjpjnmhjbmmaiaaGreatDoorRows
import Derived.Test.YtjpjnmhjbmmaiaaGreatDoorUK19
import Derived.Test.YtjpjnmhjbmmaiaaGreatDoorUM16
import Derived.Test.YtjpjnmhjbmmaiaaGreatDoorUBA
import Derived.Test.YtjpjnmhjbmmaiaaGreatDoorTie
import Derived.Test.YtjpjnmhjbmmaiaaGreatDoorCards
import Derived.SevenTiedAt
import Derived.SizedLaws
import Derived.ProofKit
import Derived.Laws.IdiomArrays
namespace Go.Proofs.YtjpjnmhjbmmaiaaGreatDoor
open Go.ChangeShapes Go.WideShapes Go.ChangeAt Go.RowKit
open Go.WideMaps Go.WideElems
open Go.ChangeMaps (setBlock shut_map_nil open_string shut_string keptBut_setBlock frozen?_setBlock heap_setBlock_same)
theorem Tryz.own : ownKnob Tryz.prog.godebug = none := by kernel_rfl
theorem Tryz.cellsU : Tryz.prog.cellsOf 22 = 1 := by kernel_rfl
theorem Tryz.cellsE : Tryz.prog.cellsOf 24 = 4 := by kernel_rfl
theorem list4 {α : Type} (l : List α) (h : (⟨l⟩ : Array α).size = 4) : ∃ a b c d, l = [a, b, c, d] := by
  match l, h with
  | [a, b, c, d], _ => exact ⟨a, b, c, d, rfl⟩
set_option maxRecDepth 100000 in
/-- An array of four words that is read is the words of a number below 2^256. -/
theorem openE {H : Type} {enc : TypeId × Value → H} {W : World} {base : Nat} {v : Value} {d : DataW H} {p : List MemPlace} (hv : Value.okWide Tryz.prog W .any base 24 v) (h : DataW.Trod enc Tryz.prog W 0 (fun _ => true) true 24 v d p) :
    ∃ x : Nat, x < 115792089237316195423570985008687907853269984665640564039457584007913129639936 ∧ v = .agg #[.int .u64 ((limb 0 (x) : Nat) : Int), .int .u64 ((limb 1 (x) : Nat) : Int), .int .u64 ((limb 2 (x) : Nat) : Int), .int .u64 ((limb 3 (x) : Nat) : Int)] ∧ p = [] ∧ d = .agg [.lit (.int .u64 ((limb 0 x : Nat) : Int)), .lit (.int .u64 ((limb 1 x : Nat) : Int)), .lit (.int .u64 ((limb 2 x : Nat) : Int)), .lit (.int .u64 ((limb 3 x : Nat) : Int))] := by
  obtain ⟨cs, rfl, hsz, _⟩ : ∃ cs, v = .agg cs ∧ cs.size = Tryz.prog.cellsOf 24 ∧ Row.okWide Tryz.prog W .any base 24 cs := by
    simpa [Value.okWide, Tryz.underlying24] using hv
  rw [Tryz.cellsE] at hsz
  obtain ⟨l⟩ := cs
  obtain ⟨c0, c1, c2, c3, rfl⟩ := list4 l hsz
  obtain ⟨fuel, hf⟩ := h
  obtain ⟨y0, y1, y2, y3, m, hx, hy0, hy1, hy2, hy3⟩ := trod_array4 Tryz.underlying24 Tryz.cellsU hf
  obtain ⟨x0, e0, rfl, w0⟩ := DataW.trod_int Tryz.underlying22 hy0
  obtain ⟨x1, e1, rfl, w1⟩ := DataW.trod_int Tryz.underlying22 hy1
  obtain ⟨x2, e2, rfl, w2⟩ := DataW.trod_int Tryz.underlying22 hy2
  obtain ⟨x3, e3, rfl, w3⟩ := DataW.trod_int Tryz.underlying22 hy3
  simp at e0 e1 e2 e3
  subst e0 e1 e2 e3
  simp only [Prod.mk.injEq] at hx
  obtain ⟨rfl, rfl⟩ := hx
  have b0 := bounds_u64' w0; have b1 := bounds_u64' w1; have b2 := bounds_u64' w2; have b3 := bounds_u64' w3
  obtain ⟨n0, rfl⟩ := Int.eq_ofNat_of_zero_le b0.1
  obtain ⟨n1, rfl⟩ := Int.eq_ofNat_of_zero_le b1.1
  obtain ⟨n2, rfl⟩ := Int.eq_ofNat_of_zero_le b2.1
  obtain ⟨n3, rfl⟩ := Int.eq_ofNat_of_zero_le b3.1
  have g := limbs_of n0 n1 n2 n3 (by omega) (by omega) (by omega) (by omega) _ rfl
  refine ⟨_, g.2.2.2.2, ?_, rfl, ?_⟩
  · rw [← g.1, ← g.2.1, ← g.2.2.1, ← g.2.2.2.1]
  · rw [← g.1, ← g.2.1, ← g.2.2.1, ← g.2.2.2.1]
set_option maxRecDepth 100000 in
theorem readE {H : Type} {enc : TypeId × Value → H} (W : World) (x : Nat) (sp : Nat → Bool) : DataW.Trod enc Tryz.prog W 0 sp true 24 (.agg #[.int .u64 ((limb 0 (x) : Nat) : Int), .int .u64 ((limb 1 (x) : Nat) : Int), .int .u64 ((limb 2 (x) : Nat) : Int), .int .u64 ((limb 3 (x) : Nat) : Int)]) (DataW.agg [.lit (.int .u64 ((limb 0 x : Nat) : Int)), .lit (.int .u64 ((limb 1 x : Nat) : Int)), .lit (.int .u64 ((limb 2 x : Nat) : Int)), .lit (.int .u64 ((limb 3 x : Nat) : Int))]) [] := by
  have hw : ∀ i, (Lit.int .u64 ((limb i x : Nat) : Int)).wf = true := fun i => wf_limb (limb i x) (limb_lt i x)
  exact ⟨2, by simp [DataW.trod, Value.cells, Tryz.underlying24, Tryz.underlying22, Tryz.cellsE, Tryz.cellsU, hw, show List.range 4 = [0, 1, 2, 3] from rfl]⟩
theorem Tryz.laidOut : laidOutB Tryz.prog = true := by kernel_rfl
theorem Tryz.cellsP : Tryz.prog.cellsOf 26 = 9 := by kernel_rfl
theorem Tryz.cellsT : Tryz.prog.cellsOf 4 = 1 := by kernel_rfl
theorem Tryz.undP : Tryz.prog.underlying 26 = some (.struct (Tryz.prog.fieldsOf 26)) := by kernel_rfl
theorem list9 {α : Type} (l : List α) (h : (⟨l⟩ : Array α).size = 9) : ∃ a b c d e f g h i, l = [a, b, c, d, e, f, g, h, i] := by
  match l, h with
  | [a, b, c, d, e, f, g, h, i], _ => exact ⟨a, b, c, d, e, f, g, h, i, rfl⟩
set_option maxRecDepth 100000 in
/-- Four cells that are read as an element are the words of a number below 2^256. -/
theorem openQ {H : Type} {enc : TypeId × Value → H} {W : World} {base m : Nat} {sp : Nat → Bool} {held : Bool} {c0 c1 c2 c3 : Value} {x : DataW H × List MemPlace} (h : DataW.trod enc Tryz.prog W base sp held m 24 [c0, c1, c2, c3] = some x) :
    ∃ x : Nat, x < 115792089237316195423570985008687907853269984665640564039457584007913129639936 ∧ c0 = .int .u64 ((limb 0 x : Nat) : Int) ∧ c1 = .int .u64 ((limb 1 x : Nat) : Int) ∧ c2 = .int .u64 ((limb 2 x : Nat) : Int) ∧ c3 = .int .u64 ((limb 3 x : Nat) : Int) := by
  obtain ⟨y0, y1, y2, y3, k, _, hy0, hy1, hy2, hy3⟩ := trod_array4 Tryz.underlying24 Tryz.cellsU h
  obtain ⟨x0, e0, _, w0⟩ := DataW.trod_int Tryz.underlying22 hy0
  obtain ⟨x1, e1, _, w1⟩ := DataW.trod_int Tryz.underlying22 hy1
  obtain ⟨x2, e2, _, w2⟩ := DataW.trod_int Tryz.underlying22 hy2
  obtain ⟨x3, e3, _, w3⟩ := DataW.trod_int Tryz.underlying22 hy3
  simp at e0 e1 e2 e3
  subst e0 e1 e2 e3
  have b0 := bounds_u64' w0; have b1 := bounds_u64' w1; have b2 := bounds_u64' w2; have b3 := bounds_u64' w3
  obtain ⟨n0, rfl⟩ := Int.eq_ofNat_of_zero_le b0.1
  obtain ⟨n1, rfl⟩ := Int.eq_ofNat_of_zero_le b1.1
  obtain ⟨n2, rfl⟩ := Int.eq_ofNat_of_zero_le b2.1
  obtain ⟨n3, rfl⟩ := Int.eq_ofNat_of_zero_le b3.1
  have g := limbs_of n0 n1 n2 n3 (by omega) (by omega) (by omega) (by omega) _ rfl
  refine ⟨_, g.2.2.2.2, ?_, ?_, ?_, ?_⟩
  · rw [← g.1]
  · rw [← g.2.1]
  · rw [← g.2.2.1]
  · rw [← g.2.2.2.1]
theorem openT {H : Type} {enc : TypeId × Value → H} {W : World} {base m : Nat} {sp : Nat → Bool} {held : Bool} {c : Value} {x : DataW H × List MemPlace} (h : DataW.trod enc Tryz.prog W base sp held m 4 [c] = some x) : ∃ b : Bool, c = .bool b := by
  obtain ⟨b, e, _⟩ := DataW.trod_bool Tryz.underlying4 h
  exact ⟨b, by simpa using e⟩
set_option maxRecDepth 100000 in
/-- A point that is read. -/
theorem openP {H : Type} {enc : TypeId × Value → H} {W : World} {base : Nat} {v : Value} {d : DataW H} {p : List MemPlace} (hv : Value.okWide Tryz.prog W .any base 26 v) (h : DataW.Trod enc Tryz.prog W 0 (fun _ => true) true 26 v d p) :
    ∃ (x y : Nat) (i : Bool), x < 115792089237316195423570985008687907853269984665640564039457584007913129639936 ∧ y < 115792089237316195423570985008687907853269984665640564039457584007913129639936 ∧ v = .agg #[.int .u64 ((limb 0 (x) : Nat) : Int), .int .u64 ((limb 1 (x) : Nat) : Int), .int .u64 ((limb 2 (x) : Nat) : Int), .int .u64 ((limb 3 (x) : Nat) : Int), .int .u64 ((limb 0 (y) : Nat) : Int), .int .u64 ((limb 1 (y) : Nat) : Int), .int .u64 ((limb 2 (y) : Nat) : Int), .int .u64 ((limb 3 (y) : Nat) : Int), .bool i] := by
  obtain ⟨cs, rfl, hsz, _⟩ : ∃ cs, v = .agg cs ∧ cs.size = Tryz.prog.cellsOf 26 ∧ Row.okWide Tryz.prog W .any base 26 cs := by
    simpa [Value.okWide, Tryz.undP] using hv
  rw [Tryz.cellsP] at hsz
  obtain ⟨l⟩ := cs
  obtain ⟨c0, c1, c2, c3, c4, c5, c6, c7, c8, rfl⟩ := list9 l hsz
  obtain ⟨fuel, hf0⟩ := h
  obtain ⟨n0, n1, n2, hl, _, _, _, t0, t1, t2, o0, o1, o2⟩ := fieldsPt
  obtain ⟨xs, m, _, _, _, hxl, hf⟩ := DataW.trod_struct Tryz.undP hf0
  have hget : ∀ i (f : Field), (Tryz.prog.fieldsOf 26).toList[i]? = some f → DataW.trod enc Tryz.prog W 0 (fun _ => true) true m f.type (([c0, c1, c2, c3, c4, c5, c6, c7, c8].drop f.offset).take (Tryz.prog.cellsOf f.type)) = xs[i]? := fun i f hi => hf i f (by simpa using hi)
  have hx3 : xs.length = 3 := by rw [hxl]; simpa using congrArg List.length hl
  rw [hl] at hget
  have g0 := hget 0 n0 rfl; have g1 := hget 1 n1 rfl; have g2 := hget 2 n2 rfl
  rw [t0, o0, Tryz.cellsE, List.getElem?_eq_getElem (by omega)] at g0
  rw [t1, o1, Tryz.cellsE, List.getElem?_eq_getElem (by omega)] at g1
  rw [t2, o2, Tryz.cellsT, List.getElem?_eq_getElem (by omega)] at g2
  obtain ⟨x, hx, rfl, rfl, rfl, rfl⟩ := openQ g0
  obtain ⟨y, hy, rfl, rfl, rfl, rfl⟩ := openQ g1
  obtain ⟨i, rfl⟩ := openT g2
  exact ⟨x, y, i, hx, hy, rfl⟩
/-- The door's own heap meets the condition: closed facts. -/
theorem door_met (os : Os) (args : Array Value) : laidMetH Tryz.prog laidF ((World.doorLaid Tryz.prog 400 os).forCall (fun _ _ => 0) ⟨#[], args, []⟩).memory :=
  laidMetH_of_parts3 (fuel := 8) (laidMet_of_run' 8 (by kernel_rfl) (by kernel_rfl)) (by kernel_rfl) (by kernel_rfl)
set_option maxHeartbeats 1000000 in
set_option maxRecDepth 100000 in
theorem lifted (os : Os) (started : os.Started) (H : Type) (enc : TypeId × Value → H) :
    ReturnsInHanded {} Tryz.checked os 7 .any (fun w args => (Rows.curveCountsSpec.pre enc Tryz.prog Tryz.f7 [] false w args ∧ laidMetH Tryz.prog laidF w) ∧ sizedMet enc Tryz.prog Tryz.f7 (OpenSpec.ofChange Rows.curveCountsSpec) false w args)
      (Rows.curveCountsSpec.post enc Tryz.prog Tryz.f7 false true false false) := by
  refine returnsInHanded_of_change_and (C := Tryz.checked) (X := fun w _ => laidMetH Tryz.prog laidF w) (fun _ _ _ hh h => h.of_heap hh) Tryz.own started (by kernel_rfl) Tryz.func7
    (ChangeSpec.witness_shaped (enc := enc) (C := Tryz.checked) (os := os) (X := fun w _ => laidMetH Tryz.prog laidF w) false (World.doorLaid Tryz.prog 400 os) #[.int .i64 0, .agg #[.int .u64 0, .int .u64 0, .int .u64 0, .int .u64 0], .agg #[.int .u64 0, .int .u64 0, .int .u64 0, .int .u64 0], .agg #[.int .u64 0, .int .u64 0, .int .u64 0, .int .u64 0, .int .u64 0, .int .u64 0, .int .u64 0, .int .u64 0, .bool false]] 8 rfl (World.shaped_of_RefB (by kernel_rfl) (by kernel_rfl)) (by kernel_rfl) (by kernel_rfl) (by kernel_rfl) (door_met os _)) ?_
  intro W base args ds gs before hval0 hW _ _ hL _
  have hval : ∀ (j : Nat) t v, Tryz.f7.params[j]? = some t → args[j]? = some v → Value.okWide Tryz.prog W .any base t v := hval0
  have hW' := hW
  obtain ⟨p, q, hA0, hV, rfl, _, _⟩ := hW
  have hA : DataW.TrodAll enc Tryz.prog W 0 (fun _ => true) true Tryz.f7.params.toList args.toList ds p := hA0
  rw [Tryz.params7] at hA hval
  obtain ⟨v0, v1, v2, v3, d0, d1, d2, d3, p0, p1, p2, p3, rfl, rfl, rfl, h0, h1, h2, h3⟩ := trodAll_four hA
  obtain ⟨rfl, rfl⟩ := trodVars_none hV
  obtain ⟨x0, rfl, rfl, rfl, hx0⟩ := open_int Tryz.underlying3 (hval 0 3 v0 rfl rfl) h0
  obtain ⟨x1, hx1, rfl, rfl, rfl⟩ := openE (hval 1 24 v1 rfl rfl) h1
  obtain ⟨x2, hx2, rfl, rfl, rfl⟩ := openE (hval 2 24 v2 rfl rfl) h2
  have h3k := h3
  obtain ⟨x3, y3, i3, hx3, hy3, rfl⟩ := openP (hval 3 26 v3 rfl rfl) h3
  clear hA0 hval0
  simp only [List.append_nil, List.nil_append] at hW'
  refine (ccounts_walk x0 x1 x2 x3 y3 i3 hx3 hy3 W (globC_of_laid hL)).mono fun e W' ⟨he, hb⟩ => ?_
  subst he
  have r1 : (Rows.curveCountsSpec.fn H ([.lit (.int .i64 x0), DataW.agg [.lit (.int .u64 ((limb 0 x1 : Nat) : Int)), .lit (.int .u64 ((limb 1 x1 : Nat) : Int)), .lit (.int .u64 ((limb 2 x1 : Nat) : Int)), .lit (.int .u64 ((limb 3 x1 : Nat) : Int))], DataW.agg [.lit (.int .u64 ((limb 0 x2 : Nat) : Int)), .lit (.int .u64 ((limb 1 x2 : Nat) : Int)), .lit (.int .u64 ((limb 2 x2 : Nat) : Int)), .lit (.int .u64 ((limb 3 x2 : Nat) : Int))], d3] ++ [])).results = [.lit (.bool true)] := by simp [Rows.curveCountsSpec]
  have a1 : (Rows.curveCountsSpec.fn H ([.lit (.int .i64 x0), DataW.agg [.lit (.int .u64 ((limb 0 x1 : Nat) : Int)), .lit (.int .u64 ((limb 1 x1 : Nat) : Int)), .lit (.int .u64 ((limb 2 x1 : Nat) : Int)), .lit (.int .u64 ((limb 3 x1 : Nat) : Int))], DataW.agg [.lit (.int .u64 ((limb 0 x2 : Nat) : Int)), .lit (.int .u64 ((limb 1 x2 : Nat) : Int)), .lit (.int .u64 ((limb 2 x2 : Nat) : Int)), .lit (.int .u64 ((limb 3 x2 : Nat) : Int))], d3] ++ [])).args = [.lit (.int .i64 x0), DataW.agg [.lit (.int .u64 ((limb 0 x1 : Nat) : Int)), .lit (.int .u64 ((limb 1 x1 : Nat) : Int)), .lit (.int .u64 ((limb 2 x1 : Nat) : Int)), .lit (.int .u64 ((limb 3 x1 : Nat) : Int))], DataW.agg [.lit (.int .u64 ((limb 0 x2 : Nat) : Int)), .lit (.int .u64 ((limb 1 x2 : Nat) : Int)), .lit (.int .u64 ((limb 2 x2 : Nat) : Int)), .lit (.int .u64 ((limb 3 x2 : Nat) : Int))], d3] := by simp [Rows.curveCountsSpec]
  have v1 : (Rows.curveCountsSpec.fn H ([.lit (.int .i64 x0), DataW.agg [.lit (.int .u64 ((limb 0 x1 : Nat) : Int)), .lit (.int .u64 ((limb 1 x1 : Nat) : Int)), .lit (.int .u64 ((limb 2 x1 : Nat) : Int)), .lit (.int .u64 ((limb 3 x1 : Nat) : Int))], DataW.agg [.lit (.int .u64 ((limb 0 x2 : Nat) : Int)), .lit (.int .u64 ((limb 1 x2 : Nat) : Int)), .lit (.int .u64 ((limb 2 x2 : Nat) : Int)), .lit (.int .u64 ((limb 3 x2 : Nat) : Int))], d3] ++ [])).vars = [] := by simp [Rows.curveCountsSpec]
  refine ⟨_, rfl, _, _, _, [], ([] ++ ([] ++ ([] ++ p3))), [], hW', ?_, ?_, ?_, hb.frame _, fun h => by cases h⟩
  · rw [r1]; exact trodAll_mk1 (shut_bool Tryz.underlying4 true)
  · rw [a1]; exact trodAll_mk4 (shut_int Tryz.underlying3 hx0) (readE W' x1 _) (readE W' x2 _) (Below.trod Tryz.laidOut (by kernel_rfl) (of_decide_eq_true (by kernel_rfl)) h3k hb (fun x hx => by simpa using hW'.lt x (by simp [hx])))
  · rw [v1]; rfl
theorem curveCounts_holds : Rows.CurveCountsSaid :=
  OpenClaim.holds_of_wide 7 Tryz.f7 rfl rfl rfl rfl rfl rfl rfl ⟨rfl, rfl, rfl, rfl, rfl⟩ rfl rfl rfl rfl rfl (by kernel_rfl) Tryz.func7 (by kernel_rfl)
    (of_decide_eq_true (by kernel_rfl)) (by unfold Func.isWrapper; first | (rw [if_pos (by decide +kernel)]; kernel_rfl) | (rw [if_neg (by decide +kernel)]; exact ⟨rfl, rfl⟩))
    (fun os started H enc _ => lifted os started H enc)
/-- The card: the row, its listed variables tied to the program's text. -/
theorem curveCounts_card : Rows.CurveCountsCardSaid :=
  Claim7.holds_tied_plain_at .later [] [.data, .data, .data] true (true, "d6b1a17f3adb34549f99fe127985d28b5b25d0c9775b581e7ab338ee6360b3b7") false
    curveCounts_holds (fun _ h => by cases h) (by kernel_rfl) (fun _ h => by cases h) curveCounts_row_tie rfl ⟨rfl, rfl⟩ (by kernel_rfl) rfl
    (fun f fn hf hfn => by
      obtain rfl : f = 7 := Option.some.inj ((show Tryz.prog.funcNamed "sigil/sigillaw04.CurveCounts" = some 7 by kernel_rfl).symm.trans hf) |>.symm
      obtain rfl : fn = Tryz.f7 := (Option.some.inj (Tryz.func7.symm.trans hfn)).symm
      exact ⟨by kernel_rfl, fun j t ht => by
        rw [Tryz.params7] at ht
        have hm : t ∈ [3, 24, 24, 26] := by simpa using Array.mem_of_getElem? ht
        have hall : ([3, 24, 24, 26].all fun u => !Tryz.prog.wantsStandIn u) = true := by kernel_rfl
        exact (show Tryz.prog.wantsStandIn t = false by simpa using List.all_eq_true.1 hall t hm)⟩)
    (by kernel_rfl)
#print axioms curveCounts_card
end Go.Proofs.YtjpjnmhjbmmaiaaGreatDoor
