/- SheetFits: for every circuit, size, sheet, kind, column and row the call returns true: Fit and At answer what the document's reference answers, and what is handed in is left as it was. Condition: the variable of package field reads as the text lays it when the call begins (the card ties it). -/
import Derived.Test.YtgkfjpbgdhmhmaaGreatDoorRows
import Derived.Test.YtgkfjpbgdhmhmaaGreatDoorVSHM
import Derived.Test.YtgkfjpbgdhmhmaaGreatDoorVOA
import Derived.Test.YtgkfjpbgdhmhmaaGreatDoorVXG
import Derived.Test.YtgkfjpbgdhmhmaaGreatDoorTie
import Derived.Test.YtgkfjpbgdhmhmaaGreatDoorCards
import Derived.SevenTiedAt
import Derived.SizedLaws
import Derived.ProofKit
namespace Go.Proofs.YtgkfjpbgdhmhmaaGreatDoor
open Go.ChangeShapes Go.WideShapes Go.ChangeAt Go.RowKit
open Go.WideMaps Go.WideElems
open Go.ChangeMaps (setBlock shut_map_nil open_string shut_string keptBut_setBlock frozen?_setBlock heap_setBlock_same)
section
variable {H : Type} {enc : TypeId × Value -> H} {P : Program} {w : World} {base : Nat} {spare : Nat -> Bool} {held : Bool}
theorem trodAll_m5 {t0 t1 t2 t3 t4 : TypeId} {v0 v1 v2 v3 v4 : Value} {d0 d1 d2 d3 d4 : DataW H} {p0 p1 p2 p3 p4 : List MemPlace} (h0 : DataW.Trod enc P w base spare held t0 v0 d0 p0) (h1 : DataW.Trod enc P w base spare held t1 v1 d1 p1) (h2 : DataW.Trod enc P w base spare held t2 v2 d2 p2) (h3 : DataW.Trod enc P w base spare held t3 v3 d3 p3) (h4 : DataW.Trod enc P w base spare held t4 v4 d4 p4) : DataW.TrodAll enc P w base spare held [t0, t1, t2, t3, t4] [v0, v1, v2, v3, v4] [d0, d1, d2, d3, d4] (p0 ++ (p1 ++ (p2 ++ (p3 ++ p4)))) := ⟨p0, (p1 ++ (p2 ++ (p3 ++ p4))), h0, trodAll_mk4 h1 h2 h3 h4, rfl⟩
end
section
variable {H : Type} {enc : TypeId × Value -> H} {P : Program} {w : World} {base : Nat} {spare : Nat -> Bool} {held : Bool}
theorem trodAll_n6 {t0 t1 t2 t3 t4 t5 : TypeId} {args : Array Value} {ds : List (DataW H)} {ps : List MemPlace} (h : DataW.TrodAll enc P w base spare held [t0, t1, t2, t3, t4, t5] args.toList ds ps) :
  ∃ v0 v1 v2 v3 v4 v5 d0 d1 d2 d3 d4 d5 p0 p1 p2 p3 p4 p5, args = #[v0, v1, v2, v3, v4, v5] /\ ds = [d0, d1, d2, d3, d4, d5] /\ ps = (p0 ++ (p1 ++ (p2 ++ (p3 ++ (p4 ++ p5))))) /\ DataW.Trod enc P w base spare held t0 v0 d0 p0 /\ DataW.Trod enc P w base spare held t1 v1 d1 p1 /\ DataW.Trod enc P w base spare held t2 v2 d2 p2 /\ DataW.Trod enc P w base spare held t3 v3 d3 p3 /\ DataW.Trod enc P w base spare held t4 v4 d4 p4 /\ DataW.Trod enc P w base spare held t5 v5 d5 p5 := by
 obtain ⟨v0, vs0, d0, ds0, p0, q0, hargs, rfl, rfl, hd0, hr0⟩ := trodAll_cons h
 obtain ⟨v1, vs1, d1, ds1, p1, q1, rfl, rfl, rfl, hd1, hr1⟩ := trodAll_cons hr0
 obtain ⟨v2, vs2, d2, ds2, p2, q2, rfl, rfl, rfl, hd2, hr2⟩ := trodAll_cons hr1
 obtain ⟨v3, vs3, d3, ds3, p3, q3, rfl, rfl, rfl, hd3, hr3⟩ := trodAll_cons hr2
 obtain ⟨v4, vs4, d4, ds4, p4, q4, rfl, rfl, rfl, hd4, hr4⟩ := trodAll_cons hr3
 obtain ⟨v5, vs5, d5, ds5, p5, q5, rfl, rfl, rfl, hd5, hr5⟩ := trodAll_cons hr4
 obtain ⟨rfl, rfl, rfl⟩ := trodAll_nil hr5
 exact ⟨v0, v1, v2, v3, v4, v5, d0, d1, d2, d3, d4, d5, p0, p1, p2, p3, p4, p5, by cases args; simp_all, rfl, by simp, hd0, hd1, hd2, hd3, hd4, hd5⟩
theorem trodAll_m6 {t0 t1 t2 t3 t4 t5 : TypeId} {v0 v1 v2 v3 v4 v5 : Value} {d0 d1 d2 d3 d4 d5 : DataW H} {p0 p1 p2 p3 p4 p5 : List MemPlace} (h0 : DataW.Trod enc P w base spare held t0 v0 d0 p0) (h1 : DataW.Trod enc P w base spare held t1 v1 d1 p1) (h2 : DataW.Trod enc P w base spare held t2 v2 d2 p2) (h3 : DataW.Trod enc P w base spare held t3 v3 d3 p3) (h4 : DataW.Trod enc P w base spare held t4 v4 d4 p4) (h5 : DataW.Trod enc P w base spare held t5 v5 d5 p5) : DataW.TrodAll enc P w base spare held [t0, t1, t2, t3, t4, t5] [v0, v1, v2, v3, v4, v5] [d0, d1, d2, d3, d4, d5] (p0 ++ (p1 ++ (p2 ++ (p3 ++ (p4 ++ p5))))) := ⟨p0, (p1 ++ (p2 ++ (p3 ++ (p4 ++ p5)))), h0, trodAll_m5 h1 h2 h3 h4 h5, rfl⟩
end
theorem door_met (os : Os) (args : Array Value) : laidMetH Tryz.prog laidF ((World.doorLaid Tryz.prog 400 os).forCall (fun _ _ => 0) ⟨#[], args, []⟩).memory :=
 laidMetH_of_parts3 (fuel := 8) (laidMet_of_run' 8 (by kernel_rfl) (by kernel_rfl)) (by kernel_rfl) (by kernel_rfl)
set_option maxHeartbeats 4000000 in
set_option maxRecDepth 100000 in
theorem lifted (os : Os) (started : os.Started) (H : Type) (enc : TypeId × Value -> H) :
  ReturnsInHanded {} Tryz.checked os 3 .any (fun w args => (Rows.sheetFitsSpec.pre enc Tryz.prog Tryz.f3 [] false w args /\ laidMetH Tryz.prog laidF w) /\ sizedMet enc Tryz.prog Tryz.f3 (OpenSpec.ofChange Rows.sheetFitsSpec) false w args)
   (Rows.sheetFitsSpec.post enc Tryz.prog Tryz.f3 false true false false) := by
 refine returnsInHanded_of_change_and (C := Tryz.checked) (X := fun w _ => laidMetH Tryz.prog laidF w) (fun _ _ _ hh h => h.of_heap hh) Tryz.own started (by kernel_rfl) Tryz.func3
  (ChangeSpec.witness_shaped (enc := enc) (C := Tryz.checked) (os := os) (X := fun w _ => laidMetH Tryz.prog laidF w) false (World.doorLaid Tryz.prog 400 os) #[.agg #[.int .i64 0, .int .i64 0, .int .i64 0, .slice none 0 0, .slice none 0 0, .slice none 0 0, .slice none 0 0], .int .i64 0, .agg #[.slice none 0 0, .slice none 0 0, .slice none 0 0, .slice none 0 0], .int .i64 0, .int .i64 0, .int .i64 0] 8 rfl (World.shaped_of_RefB (by kernel_rfl) (by kernel_rfl)) (by kernel_rfl) (by kernel_rfl) (by kernel_rfl) (door_met os _)) ?_
 intro W base args ds gs before hval0 hW _ hsz0 hL _
 have hval : ∀ (j : Nat) t v, Tryz.f3.params[j]? = some t -> args[j]? = some v -> Value.okWide Tryz.prog W .any base t v := hval0
 have hW' := hW
 obtain ⟨p, q, hA0, hV, rfl, _, _⟩ := hW
 have hA : DataW.TrodAll enc Tryz.prog W 0 (fun _ => true) true Tryz.f3.params.toList args.toList ds p := hA0
 rw [Tryz.params3] at hA hval
 have hsz : (DataW.weightsEach Tryz.prog (Tryz.f3.params.toList ++ Rows.sheetFitsSpec.plain.varTypes Tryz.prog) (ds ++ gs)).all (· <= reachBytes) = true := hsz0
 clear hsz0
 rw [Tryz.params3] at hsz
 obtain ⟨v0, v1, v2, v3, v4, v5, d0, d1, d2, d3, d4, d5, p0, p1, p2, p3, p4, p5, rfl, rfl, rfl, h0, h1, h2, h3, h4, h5⟩ := trodAll_n6 hA
 obtain ⟨rfl, rfl⟩ := trodVars_none hV
 have h0k := h0
 obtain ⟨F, A, I, oN, oG, oL, oE, n, cN, g, cG, l, cL, m, cE, f, ni, nt, In, Tb, T, G, E, rfl, hB, hBI, hRg, hCi⟩ := openCi (hval 0 27 v0 rfl rfl) h0 (fun q hq => by
  have h1 := List.all_eq_true.mp hsz q (wEach (i := 0) (t := 27) (d := d0) rfl rfl q hq)
  exact of_decide_eq_true h1)
 obtain ⟨x1, rfl, rfl, rfl, hx1⟩ := open_int Tryz.underlying3 (hval 1 3 v1 rfl rfl) h1
 have h2k := h2
 obtain ⟨oa, ob, oc, od, na, ca, nb, cb, nc, cc, nd, cd, Fa, Fb, Fc, La, Lb, Lc, Ea, Eb, Ec, P, rfl, hSz, hSL, hSR, hSh⟩ := openSh (hval 2 31 v2 rfl rfl) h2 (fun q hq => by
  have h1 := List.all_eq_true.mp hsz q (wEach (i := 2) (t := 31) (d := d2) rfl rfl q hq)
  exact of_decide_eq_true h1)
 obtain ⟨x3, rfl, rfl, rfl, hx3⟩ := open_int Tryz.underlying3 (hval 3 3 v3 rfl rfl) h3
 obtain ⟨x4, rfl, rfl, rfl, hx4⟩ := open_int Tryz.underlying3 (hval 4 3 v4 rfl rfl) h4
 obtain ⟨x5, rfl, rfl, rfl, hx5⟩ := open_int Tryz.underlying3 (hval 5 3 v5 rfl rfl) h5
 clear hA0 hval0
 simp only [List.append_nil, List.nil_append] at hW'
 refine (fits13_walk F A I oN oG oL oE oa ob oc od n cN g cG l cL m cE na ca nb cb nc cc nd cd x1 f ni nt In Tb T G E Fa Fb Fc La Lb Lc Ea Eb Ec P x3 x4 x5 hSz hBI hRg hSL.1 hSL.2.1 hSL.2.2 hSR W (glob_of_laid hL) hCi hSh).mono fun e W' ⟨he, hb⟩ => ?_
 subst he
 have r1 : (Rows.sheetFitsSpec.fn H ([d0, .lit (.int .i64 x1), d2, .lit (.int .i64 x3), .lit (.int .i64 x4), .lit (.int .i64 x5)] ++ [])).results = [.lit (.bool true)] := by simp [Rows.sheetFitsSpec]
 have a1 : (Rows.sheetFitsSpec.fn H ([d0, .lit (.int .i64 x1), d2, .lit (.int .i64 x3), .lit (.int .i64 x4), .lit (.int .i64 x5)] ++ [])).args = [d0, .lit (.int .i64 x1), d2, .lit (.int .i64 x3), .lit (.int .i64 x4), .lit (.int .i64 x5)] := by simp [Rows.sheetFitsSpec]
 have v1 : (Rows.sheetFitsSpec.fn H ([d0, .lit (.int .i64 x1), d2, .lit (.int .i64 x3), .lit (.int .i64 x4), .lit (.int .i64 x5)] ++ [])).vars = [] := by simp [Rows.sheetFitsSpec]
 refine ⟨_, rfl, _, _, _, [], (p0 ++ ([] ++ (p2 ++ ([] ++ ([] ++ []))))), [], by simpa only [List.append_nil, List.nil_append] using hW', ?_, ?_, ?_, hb.frame _, fun h => by cases h⟩
 ·rw [r1]; exact trodAll_mk1 (shut_bool Tryz.underlying4 true)
 ·rw [a1]; exact trodAll_m6 (Below.trod laidOutT (by kernel_rfl) (of_decide_eq_true (by kernel_rfl)) h0k hb (fun x hx => by simpa using hW'.lt x (by simp [hx]))) (shut_int Tryz.underlying3 hx1) (Below.trod laidOutT (by kernel_rfl) (of_decide_eq_true (by kernel_rfl)) h2k hb (fun x hx => by simpa using hW'.lt x (by simp [hx]))) (shut_int Tryz.underlying3 hx3) (shut_int Tryz.underlying3 hx4) (shut_int Tryz.underlying3 hx5)
 ·rw [v1]; rfl
theorem sheetFits_holds : Rows.SheetFitsSaid :=
 OpenClaim.holds_of_wide 3 Tryz.f3 rfl rfl rfl rfl rfl rfl rfl ⟨rfl, rfl, rfl, rfl, rfl⟩ rfl rfl rfl rfl rfl (by kernel_rfl) Tryz.func3 (by kernel_rfl)
  (of_decide_eq_true (by kernel_rfl)) (by unfold Func.isWrapper; first | (rw [if_pos (by decide +kernel)]; kernel_rfl) | (rw [if_neg (by decide +kernel)]; exact ⟨rfl, rfl⟩))
  (fun os started H enc _ => lifted os started H enc)
theorem sheetFits_card : Rows.SheetFitsCardSaid :=
 Claim7.holds_tied_plain_at .later [] [.data] true (true, "495f0adf8124499b426f7de31c5ce4777543312b3105de0570319235eebb03e9") true
  sheetFits_holds (fun _ h => by cases h) (by kernel_rfl) (fun _ h => by cases h) sheetFits_row_tie rfl ⟨rfl, rfl⟩ (by kernel_rfl) rfl
  (fun f fn hf hfn => by
   obtain rfl : f = 3 := Option.some.inj ((show Tryz.prog.funcNamed "sigil/sigillaw13.SheetFits" = some 3 by kernel_rfl).symm.trans hf) |>.symm
   obtain rfl : fn = Tryz.f3 := (Option.some.inj (Tryz.func3.symm.trans hfn)).symm
   exact ⟨by kernel_rfl, fun j t ht => by
    rw [Tryz.params3] at ht
    have hm : t ∈ [27, 3, 31, 3, 3, 3] := by simpa using Array.mem_of_getElem? ht
    have hall : ([27, 3, 31, 3, 3, 3].all fun u => !Tryz.prog.wantsStandIn u) = true := by kernel_rfl
    exact (show Tryz.prog.wantsStandIn t = false by simpa using List.all_eq_true.1 hall t hm)⟩)
  (by kernel_rfl)
#print axioms sheetFits_card
end Go.Proofs.YtgkfjpbgdhmhmaaGreatDoor
