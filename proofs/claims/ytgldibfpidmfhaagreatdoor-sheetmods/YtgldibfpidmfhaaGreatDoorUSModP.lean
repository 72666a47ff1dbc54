/- SheetMods: for every sort, circuit, size and sheet the call returns true: over the little fields a sheet whose advice has the modulus put to each value breaks the same constraints. Condition: the variable of package field reads as the text lays it when the call begins (the card ties it). -/
import Derived.Test.YtgldibfpidmfhaaGreatDoorRows
import Derived.Test.YtgldibfpidmfhaaGreatDoorUSM4
import Derived.Test.YtgldibfpidmfhaaGreatDoorUOA
import Derived.Test.YtgldibfpidmfhaaGreatDoorUXG
import Derived.Test.YtgldibfpidmfhaaGreatDoorTie
import Derived.Test.YtgldibfpidmfhaaGreatDoorCards
import Derived.SevenTiedAt
import Derived.SizedLaws
import Derived.ProofKit
namespace Go.Proofs.YtgldibfpidmfhaaGreatDoor
open Go.ChangeShapes Go.WideShapes Go.ChangeAt Go.RowKit
open Go.WideMaps Go.WideElems
open Go.ChangeMaps (setBlock shut_map_nil open_string shut_string keptBut_setBlock frozen?_setBlock heap_setBlock_same)
/-- The door's own heap meets the condition: closed facts. -/
theorem door_met (os : Os) (args : Array Value) : laidMetH Tryz.prog laidF ((World.doorLaid Tryz.prog 400 os).forCall (fun _ _ => 0) ⟨#[], args, []⟩).memory :=
  laidMetH_of_parts3 (fuel := 8) (laidMet_of_run' 8 (by kernel_rfl) (by kernel_rfl)) (by kernel_rfl) (by kernel_rfl)
set_option maxHeartbeats 4000000 in
set_option maxRecDepth 100000 in
theorem lifted (os : Os) (started : os.Started) (H : Type) (enc : TypeId × Value → H) :
    ReturnsInHanded {} Tryz.checked os 4 .any (fun w args => (Rows.sheetModsSpec.pre enc Tryz.prog Tryz.f4 [] false w args ∧ laidMetH Tryz.prog laidF w) ∧ sizedMet enc Tryz.prog Tryz.f4 (OpenSpec.ofChange Rows.sheetModsSpec) false w args)
      (Rows.sheetModsSpec.post enc Tryz.prog Tryz.f4 false true false false) := by
  refine returnsInHanded_of_change_and (C := Tryz.checked) (X := fun w _ => laidMetH Tryz.prog laidF w) (fun _ _ _ hh h => h.of_heap hh) Tryz.own started (by kernel_rfl) Tryz.func4
    (ChangeSpec.witness_shaped (enc := enc) (C := Tryz.checked) (os := os) (X := fun w _ => laidMetH Tryz.prog laidF w) false (World.doorLaid Tryz.prog 400 os) #[.int .i64 0, .agg #[.int .i64 0, .int .i64 0, .int .i64 0, .slice none 0 0, .slice none 0 0, .slice none 0 0, .slice none 0 0], .int .i64 0, .agg #[.slice none 0 0, .slice none 0 0, .slice none 0 0, .slice none 0 0]] 8 rfl (World.shaped_of_RefB (by kernel_rfl) (by kernel_rfl)) (by kernel_rfl) (by kernel_rfl) (by kernel_rfl) (door_met os _)) ?_
  intro W base args ds gs before hval0 hW _ hsz0 hL _
  have hval : ∀ (j : Nat) t v, Tryz.f4.params[j]? = some t → args[j]? = some v → Value.okWide Tryz.prog W .any base t v := hval0
  have hW' := hW
  obtain ⟨p, q, hA0, hV, rfl, _, _⟩ := hW
  have hA : DataW.TrodAll enc Tryz.prog W 0 (fun _ => true) true Tryz.f4.params.toList args.toList ds p := hA0
  rw [Tryz.params4] at hA hval
  have hsz : (DataW.weightsEach Tryz.prog (Tryz.f4.params.toList ++ Rows.sheetModsSpec.plain.varTypes Tryz.prog) (ds ++ gs)).all (· ≤ reachBytes) = true := hsz0
  clear hsz0
  rw [Tryz.params4] at hsz
  obtain ⟨v0, v1, v2, v3, d0, d1, d2, d3, p0, p1, p2, p3, rfl, rfl, rfl, h0, h1, h2, h3⟩ := trodAll_four hA
  obtain ⟨rfl, rfl⟩ := trodVars_none hV
  obtain ⟨x0, rfl, rfl, rfl, hx0⟩ := open_int Tryz.underlying3 (hval 0 3 v0 rfl rfl) h0
  have h1k := h1
  obtain ⟨F, A, I, oN, oG, oL, oE, n, cN, g, cG, l, cL, m, cE, f, ni, nt, In, Tb, T, G, E, rfl, hB, hBI, hRg, hTb, hCi⟩ := openCb (hval 1 27 v1 rfl rfl) h1 (fun q hq => by
    have h1 := List.all_eq_true.mp hsz q (wEach (i := 1) (t := 27) (d := d1) rfl rfl q hq)
    exact of_decide_eq_true h1)
  obtain ⟨x2, rfl, rfl, rfl, hx2⟩ := open_int Tryz.underlying3 (hval 2 3 v2 rfl rfl) h2
  have h3k := h3
  obtain ⟨oa, ob, oc, od, na, ca, nb, cb, nc, cc, nd, cd, Fa, Fb, Fc, La, Lb, Lc, Ea, Eb, Ec, P, rfl, hSz, hSL, hSR, hSh⟩ := openSh (hval 3 31 v3 rfl rfl) h3 (fun q hq => by
    have h1 := List.all_eq_true.mp hsz q (wEach (i := 3) (t := 31) (d := d3) rfl rfl q hq)
    exact of_decide_eq_true h1)
  clear hA0 hval0
  simp only [List.append_nil, List.nil_append] at hW'
  refine (mods_walk x0 F A I oN oG oL oE oa ob oc od n cN g cG l cL m cE na ca nb cb nc cc nd cd x2 f ni nt In Tb T G E Fa Fb Fc La Lb Lc Ea Eb Ec P hSz hBI hRg (fun i hi => (hTb i hi).1) (fun i hi => (hTb i hi).2) hSL.1 hSL.2.1 hSL.2.2 hSR W (glob_of_laid hL) hCi hSh).mono fun e W' ⟨he, hb⟩ => ?_
  subst he
  have r1 : (Rows.sheetModsSpec.fn H ([.lit (.int .i64 x0), d1, .lit (.int .i64 x2), d3] ++ [])).results = [.lit (.bool true)] := by simp [Rows.sheetModsSpec]
  have a1 : (Rows.sheetModsSpec.fn H ([.lit (.int .i64 x0), d1, .lit (.int .i64 x2), d3] ++ [])).args = [.lit (.int .i64 x0), d1, .lit (.int .i64 x2), d3] := by simp [Rows.sheetModsSpec]
  have v1 : (Rows.sheetModsSpec.fn H ([.lit (.int .i64 x0), d1, .lit (.int .i64 x2), d3] ++ [])).vars = [] := by simp [Rows.sheetModsSpec]
  refine ⟨_, rfl, _, _, _, [], ([] ++ (p1 ++ ([] ++ p3))), [], by simpa only [List.append_nil, List.nil_append] using hW', ?_, ?_, ?_, hb.frame _, fun h => by cases h⟩
  · rw [r1]; exact trodAll_mk1 (shut_bool Tryz.underlying4 true)
  · rw [a1]; exact trodAll_mk4 (shut_int Tryz.underlying3 hx0) (Below.trod laidOutT (by kernel_rfl) (of_decide_eq_true (by kernel_rfl)) h1k hb (fun x hx => by simpa using hW'.lt x (by simp [hx]))) (shut_int Tryz.underlying3 hx2) (Below.trod laidOutT (by kernel_rfl) (of_decide_eq_true (by kernel_rfl)) h3k hb (fun x hx => by simpa using hW'.lt x (by simp [hx])))
  · rw [v1]; rfl
theorem sheetMods_holds : Rows.SheetModsSaid :=
  OpenClaim.holds_of_wide 4 Tryz.f4 rfl rfl rfl rfl rfl rfl rfl ⟨rfl, rfl, rfl, rfl, rfl⟩ rfl rfl rfl rfl rfl (by kernel_rfl) Tryz.func4 (by kernel_rfl)
    (of_decide_eq_true (by kernel_rfl)) (by unfold Func.isWrapper; first | (rw [if_pos (by decide +kernel)]; kernel_rfl) | (rw [if_neg (by decide +kernel)]; exact ⟨rfl, rfl⟩))
    (fun os started H enc _ => lifted os started H enc)
/-- The card: the row, its listed variables tied to the program's text. -/
theorem sheetMods_card : Rows.SheetModsCardSaid :=
  Claim7.holds_tied_plain_at .later [] [.data] true (true, "06edae16499d8d6ccf6f19365f4e752c0d2e22ee39e54a24d1a59170f5f3b09c") true
    sheetMods_holds (fun _ h => by cases h) (by kernel_rfl) (fun _ h => by cases h) sheetMods_row_tie rfl ⟨rfl, rfl⟩ (by kernel_rfl) rfl
    (fun f fn hf hfn => by
      obtain rfl : f = 4 := Option.some.inj ((show Tryz.prog.funcNamed "sigil/sigillaw13.SheetMods" = some 4 by kernel_rfl).symm.trans hf) |>.symm
      obtain rfl : fn = Tryz.f4 := (Option.some.inj (Tryz.func4.symm.trans hfn)).symm
      exact ⟨by kernel_rfl, fun j t ht => by
        rw [Tryz.params4] at ht
        have hm : t ∈ [3, 27, 3, 31] := by simpa using Array.mem_of_getElem? ht
        have hall : ([3, 27, 3, 31].all fun u => !Tryz.prog.wantsStandIn u) = true := by kernel_rfl
        exact (show Tryz.prog.wantsStandIn t = false by simpa using List.all_eq_true.1 hall t hm)⟩)
    (by kernel_rfl)
#print axioms sheetMods_card
end Go.Proofs.YtgldibfpidmfhaaGreatDoor
