/- WordNames: the call returns true: each error and each limit has its number, and Parse of a sign that is no digit is the error 11. No condition. -/
import Derived.Test.YtidnnjbljeemeaaRows
import Derived.Test.YtidnnjbljeemeaaNames
import Derived.Test.YtidnnjbljeemeaaWf
import Derived.ProofKit
import Derived.Laws.IdiomArrays
namespace Go.Proofs.Ytidnnjbljeemeaa
open Go.ChangeShapes Go.WideShapes Go.ChangeAt Go.RowKit
open Go.WideMaps Go.WideElems
open Go.ChangeMaps (setBlock shut_map_nil open_string shut_string keptBut_setBlock frozen?_setBlock heap_setBlock_same)

theorem Try.own : ownKnob Try.prog.godebug = none := by kernel_rfl

set_option maxHeartbeats 1000000 in
set_option maxRecDepth 100000 in
theorem lifted (os : Os) (started : os.Started) (H : Type) (enc : TypeId × Value → H) :
    ReturnsInHanded {} Try.checked os 3 .any (Rows.wordNamesSpec.pre6 enc Try.prog Try.f3 Rows.wordNamesRow.domain false) (Rows.wordNamesSpec.post enc Try.prog Try.f3 false true false false) := by
  refine returnsInHanded_of_change (C := Try.checked) Try.own started (by kernel_rfl) Try.func3
    (ChangeSpec.witness6 (enc := enc) (C := Try.checked) false ⟨#[], #[], []⟩ 8 (by kernel_rfl) (by kernel_rfl) (by kernel_rfl) (by kernel_rfl)) ?_
  intro W base args ds gs before hval0 hW _ _
  have hval : ∀ (j : Nat) t v, Try.f3.params[j]? = some t → args[j]? = some v → Value.okWide Try.prog W .any base t v := hval0
  have hW' := hW
  obtain ⟨p, q, hA0, hV, rfl, _, _⟩ := hW
  have hA : DataW.TrodAll enc Try.prog W 0 (fun _ => true) true Try.f3.params.toList args.toList ds p := hA0
  rw [Try.params3] at hA hval
  obtain ⟨rfl, rfl, rfl⟩ := trodAll_none hA
  obtain ⟨rfl, rfl⟩ := trodVars_none hV
  clear hA0 hval0
  simp only [List.append_nil] at hW'
  refine (names_walk   W).mono fun e W' ⟨he, hb⟩ => ?_
  subst he
  have r1 : (Rows.wordNamesSpec.fn H ([] ++ [])).results = [.lit (.bool true)] := by simp [Rows.wordNamesSpec]
  have a1 : (Rows.wordNamesSpec.fn H ([] ++ [])).args = [] := by simp [Rows.wordNamesSpec]
  have v1 : (Rows.wordNamesSpec.fn H ([] ++ [])).vars = [] := by simp [Rows.wordNamesSpec]
  refine ⟨_, rfl, _, _, _, [], [], [], hW', ?_, ?_, ?_, hb.frame _, fun h => by cases h⟩
  · rw [r1]; exact trodAll_mk1 (shut_bool Try.underlying4 true)
  · rw [a1]; exact trodAll_mk0 
  · rw [v1]; rfl

theorem wordNames_holds : Rows.WordNamesSaid :=
  OpenClaim.holds_of_wide 3 Try.f3 rfl rfl rfl rfl rfl rfl rfl ⟨rfl, rfl, rfl, rfl, rfl⟩ rfl rfl rfl rfl rfl (by kernel_rfl) Try.func3 (by kernel_rfl)
    (of_decide_eq_true (by kernel_rfl)) (by unfold Func.isWrapper; first | (rw [if_pos (by decide +kernel)]; kernel_rfl) | (rw [if_neg (by decide +kernel)]; exact ⟨rfl, rfl⟩))
    (fun os started H enc _ => lifted os started H enc)

#print axioms wordNames_holds
end Go.Proofs.Ytidnnjbljeemeaa
