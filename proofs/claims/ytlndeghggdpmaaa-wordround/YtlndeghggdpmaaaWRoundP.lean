/- WordRound: for every a of type api.Elem the call returns true: what is shown, in either base, is read as that number. No condition. -/
import Derived.Test.YtlndeghggdpmaaaRows
import Derived.Test.YtlndeghggdpmaaaU4
import Derived.Test.YtlndeghggdpmaaaWf
import Derived.ProofKit
import Derived.Laws.IdiomArrays
namespace Go.Proofs.Ytlndeghggdpmaaa
open Go.ChangeShapes Go.WideShapes Go.ChangeAt Go.RowKit
open Go.WideMaps Go.WideElems
open Go.ChangeMaps (setBlock shut_map_nil open_string shut_string keptBut_setBlock frozen?_setBlock heap_setBlock_same)

theorem Try.own : ownKnob Try.prog.godebug = none := by kernel_rfl
theorem Try.cellsU : Try.prog.cellsOf 22 = 1 := by kernel_rfl
theorem Try.cellsE : Try.prog.cellsOf 24 = 4 := by kernel_rfl
theorem list4 {α : Type} (l : List α) (h : (⟨l⟩ : Array α).size = 4) : ∃ a b c d, l = [a, b, c, d] := by
  match l, h with
  | [a, b, c, d], _ => exact ⟨a, b, c, d, rfl⟩
/-- An array of four words that is read is the words of a number below 2^256. -/
theorem openE {H : Type} {enc : TypeId × Value → H} {W : World} {base : Nat} {v : Value} {d : DataW H} {p : List MemPlace} (hv : Value.okWide Try.prog W .any base 24 v) (h : DataW.Trod enc Try.prog W 0 (fun _ => true) true 24 v d p) :
    ∃ x : Nat, x < 115792089237316195423570985008687907853269984665640564039457584007913129639936 ∧ v = .agg #[.int .u64 ((limb 0 (x) : Nat) : Int), .int .u64 ((limb 1 (x) : Nat) : Int), .int .u64 ((limb 2 (x) : Nat) : Int), .int .u64 ((limb 3 (x) : Nat) : Int)] ∧ p = [] ∧ d = .agg [.lit (.int .u64 ((limb 0 x : Nat) : Int)), .lit (.int .u64 ((limb 1 x : Nat) : Int)), .lit (.int .u64 ((limb 2 x : Nat) : Int)), .lit (.int .u64 ((limb 3 x : Nat) : Int))] := by
  obtain ⟨cs, rfl, hsz, _⟩ : ∃ cs, v = .agg cs ∧ cs.size = Try.prog.cellsOf 24 ∧ Row.okWide Try.prog W .any base 24 cs := by
    simpa [Value.okWide, Try.underlying24] using hv
  rw [Try.cellsE] at hsz
  obtain ⟨l⟩ := cs
  obtain ⟨c0, c1, c2, c3, rfl⟩ := list4 l hsz
  obtain ⟨fuel, hf⟩ := h
  obtain ⟨y0, y1, y2, y3, m, hx, hy0, hy1, hy2, hy3⟩ := trod_array4 Try.underlying24 Try.cellsU hf
  obtain ⟨x0, e0, rfl, w0⟩ := DataW.trod_int Try.underlying22 hy0
  obtain ⟨x1, e1, rfl, w1⟩ := DataW.trod_int Try.underlying22 hy1
  obtain ⟨x2, e2, rfl, w2⟩ := DataW.trod_int Try.underlying22 hy2
  obtain ⟨x3, e3, rfl, w3⟩ := DataW.trod_int Try.underlying22 hy3
  simp at e0 e1 e2 e3
  subst e0 e1 e2 e3
  simp only [Prod.mk.injEq] at hx
  obtain ⟨rfl, rfl⟩ := hx
  have b0 := bounds_u64' w0; have b1 := bounds_u64' w1; have b2 := bounds_u64' w2; have b3 := bounds_u64' w3
  obtain ⟨n0, rfl⟩ := Int.eq_ofNat_of_zero_le b0.1
  obtain ⟨n1, rfl⟩ := Int.eq_ofNat_of_zero_le b1.1
  obtain ⟨n2, rfl⟩ := Int.eq_ofNat_of_zero_le b2.1
  obtain ⟨n3, rfl⟩ := Int.eq_ofNat_of_zero_le b3.1
  have g := limbs_of n0 n1 n2 n3 (by omega) (by omega) (by omega) (by omega) _ rfl
  refine ⟨_, g.2.2.2.2, ?_, rfl, ?_⟩
  · rw [← g.1, ← g.2.1, ← g.2.2.1, ← g.2.2.2.1]
  · rw [← g.1, ← g.2.1, ← g.2.2.1, ← g.2.2.2.1]
theorem readE {H : Type} {enc : TypeId × Value → H} (W : World) (x : Nat) (sp : Nat → Bool) : DataW.Trod enc Try.prog W 0 sp true 24 (.agg #[.int .u64 ((limb 0 (x) : Nat) : Int), .int .u64 ((limb 1 (x) : Nat) : Int), .int .u64 ((limb 2 (x) : Nat) : Int), .int .u64 ((limb 3 (x) : Nat) : Int)]) (DataW.agg [.lit (.int .u64 ((limb 0 x : Nat) : Int)), .lit (.int .u64 ((limb 1 x : Nat) : Int)), .lit (.int .u64 ((limb 2 x : Nat) : Int)), .lit (.int .u64 ((limb 3 x : Nat) : Int))]) [] := by
  have hw : ∀ i, (Lit.int .u64 ((limb i x : Nat) : Int)).wf = true := fun i => wf_limb (limb i x) (limb_lt i x)
  exact ⟨2, by simp [DataW.trod, Value.cells, Try.underlying24, Try.underlying22, Try.cellsE, Try.cellsU, hw, show List.range 4 = [0, 1, 2, 3] from rfl]⟩

set_option maxHeartbeats 1000000 in
set_option maxRecDepth 100000 in
theorem lifted (os : Os) (started : os.Started) (H : Type) (enc : TypeId × Value → H) :
    ReturnsInHanded {} Try.checked os 8 .any (Rows.wordRoundSpec.pre6 enc Try.prog Try.f8 Rows.wordRoundRow.domain false) (Rows.wordRoundSpec.post enc Try.prog Try.f8 false true false false) := by
  refine returnsInHanded_of_change (C := Try.checked) Try.own started (by kernel_rfl) Try.func8
    (ChangeSpec.witness6 (enc := enc) (C := Try.checked) false ⟨#[], #[.agg #[.int .u64 0, .int .u64 0, .int .u64 0, .int .u64 0]], []⟩ 8 (by kernel_rfl) (by kernel_rfl) (by kernel_rfl) (by kernel_rfl)) ?_
  intro W base args ds gs before hval0 hW _ _
  have hval : ∀ (j : Nat) t v, Try.f8.params[j]? = some t → args[j]? = some v → Value.okWide Try.prog W .any base t v := hval0
  have hW' := hW
  obtain ⟨p, q, hA0, hV, rfl, _, _⟩ := hW
  have hA : DataW.TrodAll enc Try.prog W 0 (fun _ => true) true Try.f8.params.toList args.toList ds p := hA0
  rw [Try.params8] at hA hval
  obtain ⟨v0, d0, rfl, rfl, h0⟩ := trodAll_one hA
  obtain ⟨rfl, rfl⟩ := trodVars_none hV
  obtain ⟨x0, hx0, rfl, rfl, rfl⟩ := openE (hval 0 24 v0 rfl rfl) h0
  clear hA0 hval0
  simp only [List.append_nil] at hW'
  refine (wround_walk x0 hx0 W).mono fun e W' ⟨he, hb⟩ => ?_
  subst he
  have r1 : (Rows.wordRoundSpec.fn H ([DataW.agg [.lit (.int .u64 ((limb 0 x0 : Nat) : Int)), .lit (.int .u64 ((limb 1 x0 : Nat) : Int)), .lit (.int .u64 ((limb 2 x0 : Nat) : Int)), .lit (.int .u64 ((limb 3 x0 : Nat) : Int))]] ++ [])).results = [.lit (.bool true)] := by simp [Rows.wordRoundSpec]
  have a1 : (Rows.wordRoundSpec.fn H ([DataW.agg [.lit (.int .u64 ((limb 0 x0 : Nat) : Int)), .lit (.int .u64 ((limb 1 x0 : Nat) : Int)), .lit (.int .u64 ((limb 2 x0 : Nat) : Int)), .lit (.int .u64 ((limb 3 x0 : Nat) : Int))]] ++ [])).args = [DataW.agg [.lit (.int .u64 ((limb 0 x0 : Nat) : Int)), .lit (.int .u64 ((limb 1 x0 : Nat) : Int)), .lit (.int .u64 ((limb 2 x0 : Nat) : Int)), .lit (.int .u64 ((limb 3 x0 : Nat) : Int))]] := by simp [Rows.wordRoundSpec]
  have v1 : (Rows.wordRoundSpec.fn H ([DataW.agg [.lit (.int .u64 ((limb 0 x0 : Nat) : Int)), .lit (.int .u64 ((limb 1 x0 : Nat) : Int)), .lit (.int .u64 ((limb 2 x0 : Nat) : Int)), .lit (.int .u64 ((limb 3 x0 : Nat) : Int))]] ++ [])).vars = [] := by simp [Rows.wordRoundSpec]
  refine ⟨_, rfl, _, _, _, [], [], [], hW', ?_, ?_, ?_, hb.frame _, fun h => by cases h⟩
  · rw [r1]; exact trodAll_mk1 (shut_bool Try.underlying4 true)
  · rw [a1]; exact trodAll_mk1 (readE W' x0 _)
  · rw [v1]; rfl

theorem wordRound_holds : Rows.WordRoundSaid :=
  OpenClaim.holds_of_wide 8 Try.f8 rfl rfl rfl rfl rfl rfl rfl ⟨rfl, rfl, rfl, rfl, rfl⟩ rfl rfl rfl rfl rfl (by kernel_rfl) Try.func8 (by kernel_rfl)
    (of_decide_eq_true (by kernel_rfl)) (by unfold Func.isWrapper; first | (rw [if_pos (by decide +kernel)]; kernel_rfl) | (rw [if_neg (by decide +kernel)]; exact ⟨rfl, rfl⟩))
    (fun os started H enc _ => lifted os started H enc)

#print axioms wordRound_holds
end Go.Proofs.Ytlndeghggdpmaaa
