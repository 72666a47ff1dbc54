/- CircuitChecks: for every circuit the call returns true: Check, Degree and Queries answer what the document's reference answers, and the circuit is left as it was. No condition. -/
import Derived.Test.YtbhljgenicahoaaRows
import Derived.Test.YtbhljgenicahoaaCSX
import Derived.Test.YtbhljgenicahoaaCOQ
import Derived.ProofKit
import Derived.SizedLaws
namespace Go.Proofs.Ytbhljgenicahoaa
open Go.ChangeShapes Go.WideShapes Go.ChangeAt Go.RowKit
open Go.WideMaps Go.WideElems
open Go.ChangeMaps (setBlock shut_map_nil open_string shut_string keptBut_setBlock frozen?_setBlock heap_setBlock_same)

set_option maxHeartbeats 4000000 in
set_option maxRecDepth 100000 in
theorem lifted (os : Os) (started : os.Started) (H : Type) (enc : TypeId × Value → H) :
    ReturnsInHanded {} Try.checked os 3 .any (Rows.circuitChecksSpec.pre6 enc Try.prog Try.f3 Rows.circuitChecksRow.domain false) (Rows.circuitChecksSpec.post enc Try.prog Try.f3 false true false false) := by
  refine returnsInHanded_of_change_sized (C := Try.checked) Try.own started (by kernel_rfl) Try.func3
    (ChangeSpec.witness6 (enc := enc) (C := Try.checked) false ⟨#[], #[.agg #[.int .i64 0, .int .i64 0, .int .i64 0, .slice none 0 0, .slice none 0 0, .slice none 0 0, .slice none 0 0]], []⟩ 8 (by kernel_rfl) (by kernel_rfl) (by kernel_rfl) (by kernel_rfl)) ?_
  intro W base args ds gs before hval0 hW _ hsz0 _
  have hval : ∀ (j : Nat) t v, Try.f3.params[j]? = some t → args[j]? = some v → Value.okWide Try.prog W .any base t v := hval0
  have hW' := hW
  obtain ⟨p, q, hA0, hV, rfl, _, _⟩ := hW
  have hA : DataW.TrodAll enc Try.prog W 0 (fun _ => true) true Try.f3.params.toList args.toList ds p := hA0
  rw [Try.params3] at hA hval
  have hsz : (DataW.weightsEach Try.prog (Try.f3.params.toList ++ Rows.circuitChecksSpec.plain.varTypes Try.prog) (ds ++ gs)).all (· ≤ reachBytes) = true := hsz0
  clear hsz0
  rw [Try.params3] at hsz
  obtain ⟨v0, d0, rfl, rfl, h0⟩ := trodAll_one hA
  obtain ⟨rfl, rfl⟩ := trodVars_none hV
  have h0k := h0
  obtain ⟨F, A, I, oN, oG, oL, oE, n, cN, g, cG, l, cL, m, cE, f, ni, nt, In, Tb, T, G, E, rfl, hB, hBI, hRg, hCi⟩ := openCi (hval 0 27 v0 rfl rfl) h0 (fun q hq => by
    have h1 := List.all_eq_true.mp hsz q (wEach (i := 0) (t := 27) (d := d0) rfl rfl q hq)
    exact of_decide_eq_true h1)
  clear hA0 hval0
  simp only [List.append_nil] at hW'
  refine (checksLaw_row F A I oN oG oL oE n cN g cG l cL m cE f ni nt In Tb T G E hB hBI hRg W hCi).mono fun e W' ⟨he, hb⟩ => ?_
  subst he
  have r1 : (Rows.circuitChecksSpec.fn H ([d0] ++ [])).results = [.lit (.bool true)] := by simp [Rows.circuitChecksSpec]
  have a1 : (Rows.circuitChecksSpec.fn H ([d0] ++ [])).args = [d0] := by simp [Rows.circuitChecksSpec]
  have v1 : (Rows.circuitChecksSpec.fn H ([d0] ++ [])).vars = [] := by simp [Rows.circuitChecksSpec]
  refine ⟨_, rfl, _, _, _, [], p, [], hW', ?_, ?_, ?_, hb.frame _, fun h => by cases h⟩
  · rw [r1]; exact trodAll_mk1 (shut_bool Try.underlying4 true)
  · rw [a1]; exact trodAll_mk1 (Below.trod laidOutT (by kernel_rfl) (of_decide_eq_true (by kernel_rfl)) h0k hb (fun x hx => by simpa using hW'.lt x (by simp [hx])))
  · rw [v1]; rfl

theorem circuitChecks_holds : Rows.CircuitChecksSaid :=
  OpenClaim.holds_of_wide 3 Try.f3 rfl rfl rfl rfl rfl rfl rfl ⟨rfl, rfl, rfl, rfl, rfl⟩ rfl rfl rfl rfl rfl (by kernel_rfl) Try.func3 (by kernel_rfl)
    (of_decide_eq_true (by kernel_rfl)) (by unfold Func.isWrapper; first | (rw [if_pos (by decide +kernel)]; kernel_rfl) | (rw [if_neg (by decide +kernel)]; exact ⟨rfl, rfl⟩))
    (fun os started H enc _ => lifted os started H enc)

#print axioms circuitChecks_holds
end Go.Proofs.Ytbhljgenicahoaa
