/- CircuitRows: for every circuit, k and node the call returns true: Usable and Rows answer what the document's reference answers. No condition. -/
import Derived.Test.YtbhljgenicahoaaRows
import Derived.Test.YtbhljgenicahoaaCSD
import Derived.Test.YtbhljgenicahoaaCOQ
import Derived.ProofKit
import Derived.SizedLaws
namespace Go.Proofs.Ytbhljgenicahoaa
open Go.ChangeShapes Go.WideShapes Go.ChangeAt Go.RowKit
open Go.WideMaps Go.WideElems
open Go.ChangeMaps (setBlock shut_map_nil open_string shut_string keptBut_setBlock frozen?_setBlock heap_setBlock_same)

set_option maxHeartbeats 4000000 in
set_option maxRecDepth 100000 in
theorem lifted (os : Os) (started : os.Started) (H : Type) (enc : TypeId × Value → H) :
    ReturnsInHanded {} Try.checked os 4 .any (Rows.circuitRowsSpec.pre6 enc Try.prog Try.f4 Rows.circuitRowsRow.domain false) (Rows.circuitRowsSpec.post enc Try.prog Try.f4 false true false false) := by
  refine returnsInHanded_of_change_sized (C := Try.checked) Try.own started (by kernel_rfl) Try.func4
    (ChangeSpec.witness6 (enc := enc) (C := Try.checked) false ⟨#[], #[.agg #[.int .i64 0, .int .i64 0, .int .i64 0, .slice none 0 0, .slice none 0 0, .slice none 0 0, .slice none 0 0], .int .i64 0, .int .i64 0], []⟩ 8 (by kernel_rfl) (by kernel_rfl) (by kernel_rfl) (by kernel_rfl)) ?_
  intro W base args ds gs before hval0 hW _ hsz0 _
  have hval : ∀ (j : Nat) t v, Try.f4.params[j]? = some t → args[j]? = some v → Value.okWide Try.prog W .any base t v := hval0
  have hW' := hW
  obtain ⟨p, q, hA0, hV, rfl, _, _⟩ := hW
  have hA : DataW.TrodAll enc Try.prog W 0 (fun _ => true) true Try.f4.params.toList args.toList ds p := hA0
  rw [Try.params4] at hA hval
  have hsz : (DataW.weightsEach Try.prog (Try.f4.params.toList ++ Rows.circuitRowsSpec.plain.varTypes Try.prog) (ds ++ gs)).all (· ≤ reachBytes) = true := hsz0
  clear hsz0
  rw [Try.params4] at hsz
  obtain ⟨v0, v1, v2, d0, d1, d2, p0, p1, p2, rfl, rfl, rfl, h0, h1, h2⟩ := trodAll_three hA
  obtain ⟨rfl, rfl⟩ := trodVars_none hV
  have h0k := h0
  obtain ⟨F, A, I, oN, oG, oL, oE, n, cN, g, cG, l, cL, m, cE, f, ni, nt, In, Tb, T, G, E, rfl, hB, hBI, hRg, hCi⟩ := openCi (hval 0 27 v0 rfl rfl) h0 (fun q hq => by
    have h1 := List.all_eq_true.mp hsz q (wEach (i := 0) (t := 27) (d := d0) rfl rfl q hq)
    exact of_decide_eq_true h1)
  obtain ⟨x1, rfl, rfl, rfl, hx1⟩ := open_int Try.underlying3 (hval 1 3 v1 rfl rfl) h1
  obtain ⟨x2, rfl, rfl, rfl, hx2⟩ := open_int Try.underlying3 (hval 2 3 v2 rfl rfl) h2
  clear hA0 hval0
  simp only [List.append_nil] at hW'
  refine (rowsLaw_row F A I oN oG oL oE n cN g cG l cL m cE f ni nt In Tb T G E x1 x2 hx1 hx2 hB hBI hRg W hCi).mono fun e W' ⟨he, hb⟩ => ?_
  subst he
  have r1 : (Rows.circuitRowsSpec.fn H ([d0, .lit (.int .i64 x1), .lit (.int .i64 x2)] ++ [])).results = [.lit (.bool true)] := by simp [Rows.circuitRowsSpec]
  have a1 : (Rows.circuitRowsSpec.fn H ([d0, .lit (.int .i64 x1), .lit (.int .i64 x2)] ++ [])).args = [d0, .lit (.int .i64 x1), .lit (.int .i64 x2)] := by simp [Rows.circuitRowsSpec]
  have v1 : (Rows.circuitRowsSpec.fn H ([d0, .lit (.int .i64 x1), .lit (.int .i64 x2)] ++ [])).vars = [] := by simp [Rows.circuitRowsSpec]
  refine ⟨_, rfl, _, _, _, [], (p0 ++ ([] ++ [])), [], hW', ?_, ?_, ?_, hb.frame _, fun h => by cases h⟩
  · rw [r1]; exact trodAll_mk1 (shut_bool Try.underlying4 true)
  · rw [a1]; exact trodAll_mk3 (Below.trod laidOutT (by kernel_rfl) (of_decide_eq_true (by kernel_rfl)) h0k hb (fun x hx => by simpa using hW'.lt x (by simp [hx]))) (shut_int Try.underlying3 hx1) (shut_int Try.underlying3 hx2)
  · rw [v1]; rfl

theorem circuitRows_holds : Rows.CircuitRowsSaid :=
  OpenClaim.holds_of_wide 4 Try.f4 rfl rfl rfl rfl rfl rfl rfl ⟨rfl, rfl, rfl, rfl, rfl⟩ rfl rfl rfl rfl rfl (by kernel_rfl) Try.func4 (by kernel_rfl)
    (of_decide_eq_true (by kernel_rfl)) (by unfold Func.isWrapper; first | (rw [if_pos (by decide +kernel)]; kernel_rfl) | (rw [if_neg (by decide +kernel)]; exact ⟨rfl, rfl⟩))
    (fun os started H enc _ => lifted os started H enc)

#print axioms circuitRows_holds
end Go.Proofs.Ytbhljgenicahoaa
