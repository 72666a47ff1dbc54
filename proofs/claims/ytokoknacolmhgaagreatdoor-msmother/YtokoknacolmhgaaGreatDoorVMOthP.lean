/- MsmOther: for any two curves' numbers, any scalar and any number the call returns true: sums of different curves aren't joined, and nothing has changed. Condition: the variables of packages field and curve read as the text lays them when the call begins (the card ties them). -/
import Derived.Test.YtokoknacolmhgaaGreatDoorRows
import Derived.Test.YtokoknacolmhgaaGreatDoorVK19
import Derived.Test.YtokoknacolmhgaaGreatDoorVMS29
import Derived.Test.YtokoknacolmhgaaGreatDoorVBA
import Derived.Test.YtokoknacolmhgaaGreatDoorTie
import Derived.Test.YtokoknacolmhgaaGreatDoorCards
import Derived.SevenTiedAt
import Derived.SizedLaws
import Derived.ProofKit
import Derived.Laws.IdiomArrays
namespace Go.Proofs.YtokoknacolmhgaaGreatDoor
open Go.ChangeShapes Go.WideShapes Go.ChangeAt Go.RowKit
open Go.WideMaps Go.WideElems
open Go.ChangeMaps (setBlock shut_map_nil open_string shut_string keptBut_setBlock frozen?_setBlock heap_setBlock_same)
theorem Tryz.own : ownKnob Tryz.prog.godebug = none := by kernel_rfl
theorem Tryz.cellsU : Tryz.prog.cellsOf 26 = 1 := by kernel_rfl
theorem Tryz.cellsE : Tryz.prog.cellsOf 28 = 4 := by kernel_rfl
theorem list4 {α : Type} (l : List α) (h : (⟨l⟩ : Array α).size = 4) : ∃ a b c d, l = [a, b, c, d] := by
 match l, h with
 | [a, b, c, d], _ => exact ⟨a, b, c, d, rfl⟩
set_option maxRecDepth 100000 in
theorem openE {H : Type} {enc : TypeId × Value → H} {W : World} {base : Nat} {v : Value} {d : DataW H} {p : List MemPlace} (hv : Value.okWide Tryz.prog W .any base 28 v) (h : DataW.Trod enc Tryz.prog W 0 (fun _ => true) true 28 v d p) :
  ∃ x : Nat, x < 115792089237316195423570985008687907853269984665640564039457584007913129639936 ∧ v = .agg #[.int .u64 (limb 0 x), .int .u64 (limb 1 x), .int .u64 (limb 2 x), .int .u64 (limb 3 x)] ∧ p = [] ∧ d = .agg [.lit (.int .u64 (limb 0 x)), .lit (.int .u64 (limb 1 x)), .lit (.int .u64 (limb 2 x)), .lit (.int .u64 (limb 3 x))] := by
 obtain ⟨cs, rfl, hsz, _⟩ : ∃ cs, v = .agg cs ∧ cs.size = Tryz.prog.cellsOf 28 ∧ Row.okWide Tryz.prog W .any base 28 cs := by
  simpa [Value.okWide, Tryz.underlying28] using hv
 rw [Tryz.cellsE] at hsz
 obtain ⟨l⟩ := cs
 obtain ⟨c0, c1, c2, c3, rfl⟩ := list4 l hsz
 obtain ⟨fuel, hf⟩ := h
 obtain ⟨y0, y1, y2, y3, m, hx, hy0, hy1, hy2, hy3⟩ := trod_array4 Tryz.underlying28 Tryz.cellsU hf
 obtain ⟨x0, e0, rfl, w0⟩ := DataW.trod_int Tryz.underlying26 hy0
 obtain ⟨x1, e1, rfl, w1⟩ := DataW.trod_int Tryz.underlying26 hy1
 obtain ⟨x2, e2, rfl, w2⟩ := DataW.trod_int Tryz.underlying26 hy2
 obtain ⟨x3, e3, rfl, w3⟩ := DataW.trod_int Tryz.underlying26 hy3
 simp at e0 e1 e2 e3
 subst e0 e1 e2 e3
 simp only [Prod.mk.injEq] at hx
 obtain ⟨rfl, rfl⟩ := hx
 have b0 := bounds_u64' w0; have b1 := bounds_u64' w1; have b2 := bounds_u64' w2; have b3 := bounds_u64' w3
 obtain ⟨n0, rfl⟩ := Int.eq_ofNat_of_zero_le b0.1
 obtain ⟨n1, rfl⟩ := Int.eq_ofNat_of_zero_le b1.1
 obtain ⟨n2, rfl⟩ := Int.eq_ofNat_of_zero_le b2.1
 obtain ⟨n3, rfl⟩ := Int.eq_ofNat_of_zero_le b3.1
 have g := limbs_of n0 n1 n2 n3 (by omega) (by omega) (by omega) (by omega) _ rfl
 refine ⟨_, g.2.2.2.2, ?_, rfl, ?_⟩
 ·rw [← g.1, ← g.2.1, ← g.2.2.1, ← g.2.2.2.1]
 ·rw [← g.1, ← g.2.1, ← g.2.2.1, ← g.2.2.2.1]
set_option maxRecDepth 100000 in
theorem readE {H : Type} {enc : TypeId × Value → H} (W : World) (x : Nat) (sp : Nat → Bool) : DataW.Trod enc Tryz.prog W 0 sp true 28 (.agg #[.int .u64 (limb 0 x), .int .u64 (limb 1 x), .int .u64 (limb 2 x), .int .u64 (limb 3 x)]) (DataW.agg [.lit (.int .u64 (limb 0 x)), .lit (.int .u64 (limb 1 x)), .lit (.int .u64 (limb 2 x)), .lit (.int .u64 (limb 3 x))]) [] := by
 have hw : ∀ i, (Lit.int .u64 (limb i x)).wf = true := fun i => wf_limb (limb i x) (limb_lt i x)
 exact ⟨2, by simp [DataW.trod, Value.cells, Tryz.underlying28, Tryz.underlying26, Tryz.cellsE, Tryz.cellsU, hw, show List.range 4 = [0, 1, 2, 3] from rfl]⟩
theorem door_met (os : Os) (args : Array Value) : laidMetH Tryz.prog laidF ((World.doorLaid Tryz.prog 400 os).forCall (fun _ _ => 0) ⟨#[], args, []⟩).memory :=
 laidMetH_of_parts3 (fuel := 8) (laidMet_of_run' 8 (by kernel_rfl) (by kernel_rfl)) (by kernel_rfl) (by kernel_rfl)
set_option maxHeartbeats 1000000 in
set_option maxRecDepth 100000 in
theorem lifted (os : Os) (started : os.Started) (H : Type) (enc : TypeId × Value → H) :
  ReturnsInHanded {} Tryz.checked os 6 .any (fun w args => (Rows.msmOtherSpec.pre enc Tryz.prog Tryz.f6 [] false w args ∧ laidMetH Tryz.prog laidF w) ∧ sizedMet enc Tryz.prog Tryz.f6 (OpenSpec.ofChange Rows.msmOtherSpec) false w args)
   (Rows.msmOtherSpec.post enc Tryz.prog Tryz.f6 false true false false) := by
 refine returnsInHanded_of_change_and (C := Tryz.checked) (X := fun w _ => laidMetH Tryz.prog laidF w) (fun _ _ _ hh h => h.of_heap hh) Tryz.own started (by kernel_rfl) Tryz.func6
  (ChangeSpec.witness_shaped (enc := enc) (C := Tryz.checked) (os := os) (X := fun w _ => laidMetH Tryz.prog laidF w) false (World.doorLaid Tryz.prog 400 os) #[.int .i64 0, .int .i64 0, .agg #[.int .u64 0, .int .u64 0, .int .u64 0, .int .u64 0], .int .i64 0] 8 rfl (World.shaped_of_RefB (by kernel_rfl) (by kernel_rfl)) (by kernel_rfl) (by kernel_rfl) (by kernel_rfl) (door_met os _)) ?_
 intro W base args ds gs before hval0 hW _ _ hL _
 have hval : ∀ (j : Nat) t v, Tryz.f6.params[j]? = some t → args[j]? = some v → Value.okWide Tryz.prog W .any base t v := hval0
 have hW' := hW
 obtain ⟨p, q, hA0, hV, rfl, _, _⟩ := hW
 have hA : DataW.TrodAll enc Tryz.prog W 0 (fun _ => true) true Tryz.f6.params.toList args.toList ds p := hA0
 rw [Tryz.params6] at hA hval
 obtain ⟨v0, v1, v2, v3, d0, d1, d2, d3, p0, p1, p2, p3, rfl, rfl, rfl, h0, h1, h2, h3⟩ := trodAll_four hA
 obtain ⟨rfl, rfl⟩ := trodVars_none hV
 obtain ⟨x0, rfl, rfl, rfl, hx0⟩ := open_int Tryz.underlying3 (hval 0 3 v0 rfl rfl) h0
 obtain ⟨x1, rfl, rfl, rfl, hx1⟩ := open_int Tryz.underlying3 (hval 1 3 v1 rfl rfl) h1
 obtain ⟨x2, hx2, rfl, rfl, rfl⟩ := openE (hval 2 28 v2 rfl rfl) h2
 obtain ⟨x3, rfl, rfl, rfl, hx3⟩ := open_int Tryz.underlying3 (hval 3 3 v3 rfl rfl) h3
 clear hA0 hval0
 simp only [List.append_nil] at hW'
 refine (moth_walk x0 x1 x2 x3 hx2 W (globC_of_laid hL)).mono fun e W' ⟨he, hb⟩ => ?_
 subst he
 have r1 : (Rows.msmOtherSpec.fn H ([.lit (.int .i64 x0), .lit (.int .i64 x1), DataW.agg [.lit (.int .u64 (limb 0 x2)), .lit (.int .u64 (limb 1 x2)), .lit (.int .u64 (limb 2 x2)), .lit (.int .u64 (limb 3 x2))], .lit (.int .i64 x3)] ++ [])).results = [.lit (.bool true)] := by simp [Rows.msmOtherSpec]
 have a1 : (Rows.msmOtherSpec.fn H ([.lit (.int .i64 x0), .lit (.int .i64 x1), DataW.agg [.lit (.int .u64 (limb 0 x2)), .lit (.int .u64 (limb 1 x2)), .lit (.int .u64 (limb 2 x2)), .lit (.int .u64 (limb 3 x2))], .lit (.int .i64 x3)] ++ [])).args = [.lit (.int .i64 x0), .lit (.int .i64 x1), DataW.agg [.lit (.int .u64 (limb 0 x2)), .lit (.int .u64 (limb 1 x2)), .lit (.int .u64 (limb 2 x2)), .lit (.int .u64 (limb 3 x2))], .lit (.int .i64 x3)] := by simp [Rows.msmOtherSpec]
 have v1 : (Rows.msmOtherSpec.fn H ([.lit (.int .i64 x0), .lit (.int .i64 x1), DataW.agg [.lit (.int .u64 (limb 0 x2)), .lit (.int .u64 (limb 1 x2)), .lit (.int .u64 (limb 2 x2)), .lit (.int .u64 (limb 3 x2))], .lit (.int .i64 x3)] ++ [])).vars = [] := by simp [Rows.msmOtherSpec]
 refine ⟨_, rfl, _, _, _, [], [], [], hW', ?_, ?_, ?_, hb.frame _, fun h => by cases h⟩
 ·rw [r1]; exact trodAll_mk1 (shut_bool Tryz.underlying4 true)
 ·rw [a1]; exact trodAll_mk4 (shut_int Tryz.underlying3 hx0) (shut_int Tryz.underlying3 hx1) (readE W' x2 _) (shut_int Tryz.underlying3 hx3)
 ·rw [v1]; rfl
theorem msmOther_holds : Rows.MsmOtherSaid :=
 OpenClaim.holds_of_wide 6 Tryz.f6 rfl rfl rfl rfl rfl rfl rfl ⟨rfl, rfl, rfl, rfl, rfl⟩ rfl rfl rfl rfl rfl (by kernel_rfl) Tryz.func6 (by kernel_rfl)
  (of_decide_eq_true (by kernel_rfl)) (by unfold Func.isWrapper; first | (rw [if_pos (by decide +kernel)]; kernel_rfl) | (rw [if_neg (by decide +kernel)]; exact ⟨rfl, rfl⟩))
  (fun os started H enc _ => lifted os started H enc)
theorem msmOther_card : Rows.MsmOtherCardSaid :=
 Claim7.holds_tied_plain_at .later [] [.data, .data, .data] true (true, "1caefdd27b5d352156a54170720e4dafe2cec5fa440c114d99297d2a1e49aec9") false
  msmOther_holds (fun _ h => by cases h) (by kernel_rfl) (fun _ h => by cases h) msmOther_row_tie rfl ⟨rfl, rfl⟩ (by kernel_rfl) rfl
  (fun f fn hf hfn => by
   obtain rfl : f = 6 := Option.some.inj ((show Tryz.prog.funcNamed "sigil/sigillaw05.MsmOther" = some 6 by kernel_rfl).symm.trans hf) |>.symm
   obtain rfl : fn = Tryz.f6 := (Option.some.inj (Tryz.func6.symm.trans hfn)).symm
   exact ⟨by kernel_rfl, fun j t ht => by
    rw [Tryz.params6] at ht
    have hm : t ∈ [3, 3, 28, 3] := by simpa using Array.mem_of_getElem? ht
    have hall : ([3, 3, 28, 3].all fun u => !Tryz.prog.wantsStandIn u) = true := by kernel_rfl
    exact (show Tryz.prog.wantsStandIn t = false by simpa using List.all_eq_true.1 hall t hm)⟩)
  (by kernel_rfl)
#print axioms msmOther_card
end Go.Proofs.YtokoknacolmhgaaGreatDoor
