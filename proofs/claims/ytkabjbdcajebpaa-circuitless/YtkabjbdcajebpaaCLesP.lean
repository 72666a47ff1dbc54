/- CircuitLess: for every circuit the call returns true: a right circuit with a gate, a lookup and a copied column less is right, of no greater degree and with no more queries. No condition. -/
import Derived.Test.YtkabjbdcajebpaaRows
import Derived.Test.YtkabjbdcajebpaaCLI
import Derived.Test.YtkabjbdcajebpaaCOQ
import Derived.ProofKit
import Derived.SizedLaws
namespace Go.Proofs.Ytkabjbdcajebpaa
open Go.ChangeShapes Go.WideShapes Go.ChangeAt Go.RowKit
open Go.WideMaps Go.WideElems
open Go.ChangeMaps (setBlock shut_map_nil open_string shut_string keptBut_setBlock frozen?_setBlock heap_setBlock_same)

set_option maxHeartbeats 4000000 in
set_option maxRecDepth 100000 in
theorem lifted (os : Os) (started : os.Started) (H : Type) (enc : TypeId × Value → H) :
    ReturnsInHanded {} Try.checked os 7 .any (Rows.circuitLessSpec.pre6 enc Try.prog Try.f7 Rows.circuitLessRow.domain false) (Rows.circuitLessSpec.post enc Try.prog Try.f7 false true false false) := by
  refine returnsInHanded_of_change_sized (C := Try.checked) Try.own started (by kernel_rfl) Try.func7
    (ChangeSpec.witness6 (enc := enc) (C := Try.checked) false ⟨#[], #[.agg #[.int .i64 0, .int .i64 0, .int .i64 0, .slice none 0 0, .slice none 0 0, .slice none 0 0, .slice none 0 0]], []⟩ 8 (by kernel_rfl) (by kernel_rfl) (by kernel_rfl) (by kernel_rfl)) ?_
  intro W base args ds gs before hval0 hW _ hsz0 _
  have hval : ∀ (j : Nat) t v, Try.f7.params[j]? = some t → args[j]? = some v → Value.okWide Try.prog W .any base t v := hval0
  have hW' := hW
  obtain ⟨p, q, hA0, hV, rfl, _, _⟩ := hW
  have hA : DataW.TrodAll enc Try.prog W 0 (fun _ => true) true Try.f7.params.toList args.toList ds p := hA0
  rw [Try.params7] at hA hval
  have hsz : (DataW.weightsEach Try.prog (Try.f7.params.toList ++ Rows.circuitLessSpec.plain.varTypes Try.prog) (ds ++ gs)).all (· ≤ reachBytes) = true := hsz0
  clear hsz0
  rw [Try.params7] at hsz
  obtain ⟨v0, d0, rfl, rfl, h0⟩ := trodAll_one hA
  obtain ⟨rfl, rfl⟩ := trodVars_none hV
  have h0k := h0
  obtain ⟨F, A, I, oN, oG, oL, oE, n, cN, g, cG, l, cL, m, cE, f, ni, nt, In, Tb, T, G, E, rfl, hB, hBI, hRg, hCi⟩ := openCi (hval 0 27 v0 rfl rfl) h0 (fun q hq => by
    have h1 := List.all_eq_true.mp hsz q (wEach (i := 0) (t := 27) (d := d0) rfl rfl q hq)
    exact of_decide_eq_true h1)
  clear hA0 hval0
  simp only [List.append_nil] at hW'
  refine (lessLaw_row F A I oN oG oL oE n cN g cG l cL m cE f ni nt In Tb T G E hB hBI hRg W hCi).mono fun e W' ⟨he, hb⟩ => ?_
  subst he
  have r1 : (Rows.circuitLessSpec.fn H ([d0] ++ [])).results = [.lit (.bool true)] := by simp [Rows.circuitLessSpec]
  have a1 : (Rows.circuitLessSpec.fn H ([d0] ++ [])).args = [d0] := by simp [Rows.circuitLessSpec]
  have v1 : (Rows.circuitLessSpec.fn H ([d0] ++ [])).vars = [] := by simp [Rows.circuitLessSpec]
  refine ⟨_, rfl, _, _, _, [], p, [], hW', ?_, ?_, ?_, hb.frame _, fun h => by cases h⟩
  · rw [r1]; exact trodAll_mk1 (shut_bool Try.underlying4 true)
  · rw [a1]; exact trodAll_mk1 (Below.trod laidOutT (by kernel_rfl) (of_decide_eq_true (by kernel_rfl)) h0k hb (fun x hx => by simpa using hW'.lt x (by simp [hx])))
  · rw [v1]; rfl

theorem circuitLess_holds : Rows.CircuitLessSaid :=
  OpenClaim.holds_of_wide 7 Try.f7 rfl rfl rfl rfl rfl rfl rfl ⟨rfl, rfl, rfl, rfl, rfl⟩ rfl rfl rfl rfl rfl (by kernel_rfl) Try.func7 (by kernel_rfl)
    (of_decide_eq_true (by kernel_rfl)) (by unfold Func.isWrapper; first | (rw [if_pos (by decide +kernel)]; kernel_rfl) | (rw [if_neg (by decide +kernel)]; exact ⟨rfl, rfl⟩))
    (fun os started H enc _ => lifted os started H enc)

#print axioms circuitLess_holds
end Go.Proofs.Ytkabjbdcajebpaa
