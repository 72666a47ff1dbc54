/- WordParses: for every string the call returns true: Parse answers what the reference answers. No condition. -/
import Derived.Test.YtlndeghggdpmaaaRows
import Derived.Test.YtlndeghggdpmaaaV4
import Derived.Test.YtlndeghggdpmaaaWf
import Derived.ProofKit
import Derived.Laws.IdiomArrays
namespace Go.Proofs.Ytlndeghggdpmaaa
open Go.ChangeShapes Go.WideShapes Go.ChangeAt Go.RowKit
open Go.WideMaps Go.WideElems
open Go.ChangeMaps (setBlock shut_map_nil open_string shut_string keptBut_setBlock frozen?_setBlock heap_setBlock_same)

theorem Try.own : ownKnob Try.prog.godebug = none := by kernel_rfl

set_option maxHeartbeats 1000000 in
set_option maxRecDepth 100000 in
theorem lifted (os : Os) (started : os.Started) (H : Type) (enc : TypeId × Value → H) :
    ReturnsInHanded {} Try.checked os 7 .any (Rows.wordParsesSpec.pre6 enc Try.prog Try.f7 Rows.wordParsesRow.domain false) (Rows.wordParsesSpec.post enc Try.prog Try.f7 false true false false) := by
  refine returnsInHanded_of_change (C := Try.checked) Try.own started (by kernel_rfl) Try.func7
    (ChangeSpec.witness6 (enc := enc) (C := Try.checked) false ⟨#[], #[.string ByteArray.empty], []⟩ 8 (by kernel_rfl) (by kernel_rfl) (by kernel_rfl) (by kernel_rfl)) ?_
  intro W base args ds gs before hval0 hW _ _
  have hval : ∀ (j : Nat) t v, Try.f7.params[j]? = some t → args[j]? = some v → Value.okWide Try.prog W .any base t v := hval0
  have hW' := hW
  obtain ⟨p, q, hA0, hV, rfl, _, _⟩ := hW
  have hA : DataW.TrodAll enc Try.prog W 0 (fun _ => true) true Try.f7.params.toList args.toList ds p := hA0
  rw [Try.params7] at hA hval
  obtain ⟨v0, d0, rfl, rfl, h0⟩ := trodAll_one hA
  obtain ⟨rfl, rfl⟩ := trodVars_none hV
  obtain ⟨x0, rfl, rfl, rfl, hx0⟩ := open_string Try.underlying9 (hval 0 9 v0 rfl rfl) h0
  clear hA0 hval0
  simp only [List.append_nil] at hW'
  refine (parses_walk x0 W).mono fun e W' ⟨he, hb⟩ => ?_
  subst he
  have r1 : (Rows.wordParsesSpec.fn H ([.lit (.string x0.data.toList)] ++ [])).results = [.lit (.bool true)] := by simp [Rows.wordParsesSpec]
  have a1 : (Rows.wordParsesSpec.fn H ([.lit (.string x0.data.toList)] ++ [])).args = [.lit (.string x0.data.toList)] := by simp [Rows.wordParsesSpec]
  have v1 : (Rows.wordParsesSpec.fn H ([.lit (.string x0.data.toList)] ++ [])).vars = [] := by simp [Rows.wordParsesSpec]
  refine ⟨_, rfl, _, _, _, [], [], [], hW', ?_, ?_, ?_, hb.frame _, fun h => by cases h⟩
  · rw [r1]; exact trodAll_mk1 (shut_bool Try.underlying4 true)
  · rw [a1]; exact trodAll_mk1 (shut_string Try.underlying9 hx0)
  · rw [v1]; rfl

theorem wordParses_holds : Rows.WordParsesSaid :=
  OpenClaim.holds_of_wide 7 Try.f7 rfl rfl rfl rfl rfl rfl rfl ⟨rfl, rfl, rfl, rfl, rfl⟩ rfl rfl rfl rfl rfl (by kernel_rfl) Try.func7 (by kernel_rfl)
    (of_decide_eq_true (by kernel_rfl)) (by unfold Func.isWrapper; first | (rw [if_pos (by decide +kernel)]; kernel_rfl) | (rw [if_neg (by decide +kernel)]; exact ⟨rfl, rfl⟩))
    (fun os started H enc _ => lifted os started H enc)

#print axioms wordParses_holds
end Go.Proofs.Ytlndeghggdpmaaa
