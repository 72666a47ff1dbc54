/- BlakeSums: for every person, length and b the call returns true: every Sum answers what the reference says, or its error, and leaves the bytes as they were. Condition: the variables of package blake read as the text lays them when the call begins (the card ties them). -/
import Derived.Test.YtolaofoffakddaaDoorRows
import Derived.Test.YtolaofoffakddaaDoorX5
import Derived.Test.YtolaofoffakddaaDoorBG
import Derived.Test.YtolaofoffakddaaDoorWf
import Derived.Test.YtolaofoffakddaaDoorTie
import Derived.Test.YtolaofoffakddaaDoorCards
import Derived.SevenTiedAt
import Derived.SizedLaws
import Derived.ProofKit
import Derived.Laws.IdiomArrays
namespace Go.Proofs.YtolaofoffakddaaDoor
open Go.ChangeShapes Go.WideShapes Go.ChangeAt Go.RowKit
open Go.WideMaps Go.WideElems
open Go.ChangeMaps (setBlock shut_map_nil open_string shut_string keptBut_setBlock frozen?_setBlock heap_setBlock_same)

theorem Tryd.own : ownKnob Tryd.prog.godebug = none := by kernel_rfl
theorem Tryd.cellsB : Tryd.prog.cellsOf 5 = 1 := by kernel_rfl
theorem Tryd.bytesB : Tryd.prog.bytesOf 5 = 1 := by kernel_rfl
theorem Tryd.laidOut : laidOutB Tryd.prog = true := by kernel_rfl
theorem byte_of {z : Int} (h : (Lit.int .u8 z).wf = true) : 0 ≤ z ∧ z ≤ 255 := by
  have h1 : IntKind.u8.min = 0 := rfl
  have h2 : IntKind.u8.max = 255 := rfl
  simp only [Lit.wf, Bool.and_eq_true, decide_eq_true_eq] at h
  omega
set_option maxRecDepth 100000 in
/-- A slice of bytes that is read. -/
theorem openB {H : Type} {enc : TypeId × Value → H} {W : World} {base : Nat} {v : Value} {d : DataW H} {p : List MemPlace} (hv : Value.okWide Tryd.prog W .any base 22 v) (h : DataW.Trod enc Tryd.prog W 0 (fun _ => true) true 22 v d p)
    (hz : ∀ el sp, d = .slice el sp → (el.length + sp.length) * Tryd.prog.bytesOf 5 ≤ reachBytes) :
    ∃ (n : Nat) (f : Nat → Nat), Bs W v n f ∧ (∀ i, i < n → f i < 256) ∧ n ≤ 140737488351232 := by
  obtain ⟨a0, len, cap, rfl⟩ := okWide_slice Tryd.underlying22 hv
  obtain ⟨fuel, hf⟩ := h
  rcases open_ints Tryd.underlying22 Tryd.underlying5 Tryd.cellsB hf with ⟨hcs, hx⟩ | ⟨a, len', cap', zs, hcs, _, hl, hm, hzs, hx, hcell, hwz⟩
  · simp [Value.cells] at hcs
    obtain ⟨rfl, rfl, rfl⟩ := hcs
    exact ⟨0, fun _ => 0, Or.inl ⟨rfl, rfl⟩, fun i hi => by omega, by omega⟩
  · simp [Value.cells] at hcs
    obtain ⟨rfl, rfl, rfl⟩ := hcs
    simp only [Prod.mk.injEq] at hx
    obtain ⟨rfl, rfl⟩ := hx
    simp only [if_true] at hzs
    have hr := hz _ _ rfl
    rw [Tryd.bytesB] at hr
    simp only [lits, List.length_map, List.length_take, List.length_drop, reachBytes] at hr
    have hb : a.block < W.heap.size := by
      have h1 : Value.okWide Tryd.prog W .any base 22 (.slice (some a) len cap) := hv
      simp only [Value.okWide, Cell.okWide, Cell.ok, Tryd.underlying22] at h1
      obtain ⟨_, _, _, _, row, cells, hs, _⟩ := h1
      rcases Nat.lt_or_ge a.block W.heap.size with h | h
      · exact h
      · simp [World.shape?, Array.getElem?_eq_none h] at hs
    have hby : ∀ i, i < zs.length → 0 ≤ zs.getD i 0 ∧ zs.getD i 0 ≤ 255 := fun i hi => by
      have e : zs.getD i 0 = zs[i] := by simp [List.getD, hi]
      rw [e]
      exact byte_of (hwz _ (List.getElem_mem hi))
    refine ⟨len, fun i => (zs.getD i 0).toNat, Or.inr ⟨a, cap, rfl, hl, hm, hb, fun i hi => ?_⟩, fun i hi => ?_, by omega⟩
    · have := hby i (by omega)
      rw [hcell i (by omega), show (((zs.getD i 0).toNat : Nat) : Int) = zs.getD i 0 from by omega]
    · have := hby i (by omega)
      show (zs.getD i 0).toNat < 256
      omega

/-- The door's own heap meets the condition: closed facts. -/
theorem door_met (os : Os) (args : Array Value) : laidMetH Tryd.prog laidF ((World.doorLaid Tryd.prog 400 os).forCall (fun _ _ => 0) ⟨#[], args, []⟩).memory :=
  laidMetH_of_parts3 (fuel := 8) (laidMet_of_run' 8 (by kernel_rfl) (by kernel_rfl)) (by kernel_rfl) (by kernel_rfl)

set_option maxHeartbeats 1000000 in
set_option maxRecDepth 100000 in
theorem lifted (os : Os) (started : os.Started) (H : Type) (enc : TypeId × Value → H) :
    ReturnsInHanded {} Tryd.checked os 3 .any (fun w args => (Rows.blakeSumsSpec.pre enc Tryd.prog Tryd.f3 [] false w args ∧ laidMetH Tryd.prog laidF w) ∧ sizedMet enc Tryd.prog Tryd.f3 (OpenSpec.ofChange Rows.blakeSumsSpec) false w args)
      (Rows.blakeSumsSpec.post enc Tryd.prog Tryd.f3 false true false false) := by
  refine returnsInHanded_of_change_and (C := Tryd.checked) (X := fun w _ => laidMetH Tryd.prog laidF w) (fun _ _ _ hh h => h.of_heap hh) Tryd.own started (by kernel_rfl) Tryd.func3
    (ChangeSpec.witness_shaped (enc := enc) (C := Tryd.checked) (os := os) (X := fun w _ => laidMetH Tryd.prog laidF w) false (World.doorLaid Tryd.prog 400 os) #[.string ByteArray.empty, .int .i64 0, .slice none 0 0] 8 rfl (World.shaped_of_RefB (by kernel_rfl) (by kernel_rfl)) (by kernel_rfl) (by kernel_rfl) (by kernel_rfl) (door_met os _)) ?_
  intro W base args ds gs before hval0 hW _ hsz0 hL _
  have hval : ∀ (j : Nat) t v, Tryd.f3.params[j]? = some t → args[j]? = some v → Value.okWide Tryd.prog W .any base t v := hval0
  have hW' := hW
  obtain ⟨p, q, hA0, hV, rfl, _, _⟩ := hW
  have hA : DataW.TrodAll enc Tryd.prog W 0 (fun _ => true) true Tryd.f3.params.toList args.toList ds p := hA0
  rw [Tryd.params3] at hA hval
  have hsz : (DataW.weightsEach Tryd.prog (Tryd.f3.params.toList ++ Rows.blakeSumsSpec.plain.varTypes Tryd.prog) (ds ++ gs)).all (· ≤ reachBytes) = true := hsz0
  clear hsz0
  rw [Tryd.params3] at hsz
  obtain ⟨v0, v1, v2, d0, d1, d2, p0, p1, p2, rfl, rfl, rfl, h0, h1, h2⟩ := trodAll_three hA
  obtain ⟨rfl, rfl⟩ := trodVars_none hV
  obtain ⟨x0, rfl, rfl, rfl, hx0⟩ := open_string Tryd.underlying9 (hval 0 9 v0 rfl rfl) h0
  obtain ⟨x1, rfl, rfl, rfl, hx1⟩ := open_int Tryd.underlying3 (hval 1 3 v1 rfl rfl) h1
  have h2k := h2
  obtain ⟨n2, f2, hB2, hf2, hn2⟩ := openB (hval 2 22 v2 rfl rfl) h2 (fun el sp hd => by subst hd; exact sized_slice hsz (j := 2) rfl rfl Tryd.underlying22)
  clear hA0 hval0
  simp only [List.append_nil, List.nil_append] at hW'
  refine (sums_walk x0 x1 n2 v2 f2 W hB2 hf2 (glob_of_laid hL)).mono fun e W' ⟨he, hb⟩ => ?_
  subst he
  have r1 : (Rows.blakeSumsSpec.fn H ([.lit (.string x0.data.toList), .lit (.int .i64 x1), d2] ++ [])).results = [.lit (.bool true)] := by simp [Rows.blakeSumsSpec]
  have a1 : (Rows.blakeSumsSpec.fn H ([.lit (.string x0.data.toList), .lit (.int .i64 x1), d2] ++ [])).args = [.lit (.string x0.data.toList), .lit (.int .i64 x1), d2] := by simp [Rows.blakeSumsSpec]
  have v1 : (Rows.blakeSumsSpec.fn H ([.lit (.string x0.data.toList), .lit (.int .i64 x1), d2] ++ [])).vars = [] := by simp [Rows.blakeSumsSpec]
  refine ⟨_, rfl, _, _, _, [], ([] ++ ([] ++ p2)), [], hW', ?_, ?_, ?_, hb.frame _, fun h => by cases h⟩
  · rw [r1]; exact trodAll_mk1 (shut_bool Tryd.underlying4 true)
  · rw [a1]; exact trodAll_mk3 (shut_string Tryd.underlying9 hx0) (shut_int Tryd.underlying3 hx1) (Below.trod Tryd.laidOut (by kernel_rfl) (of_decide_eq_true (by kernel_rfl)) h2k hb (fun x hx => by simpa using hW'.lt x (by simp [hx])))
  · rw [v1]; rfl

theorem blakeSums_holds : Rows.BlakeSumsSaid :=
  OpenClaim.holds_of_wide 3 Tryd.f3 rfl rfl rfl rfl rfl rfl rfl ⟨rfl, rfl, rfl, rfl, rfl⟩ rfl rfl rfl rfl rfl (by kernel_rfl) Tryd.func3 (by kernel_rfl)
    (of_decide_eq_true (by kernel_rfl)) (by unfold Func.isWrapper; first | (rw [if_pos (by decide +kernel)]; kernel_rfl) | (rw [if_neg (by decide +kernel)]; exact ⟨rfl, rfl⟩))
    (fun os started H enc _ => lifted os started H enc)

/-- The card: the row, its listed variables tied to the program's text. -/
theorem blakeSums_card : Rows.BlakeSumsCardSaid :=
  Claim7.holds_tied_plain_at .later [] [.data, .data] true (true, "6b09db40578791603e1387f4c44ba02b12d42f501eaf74f1920a4d7c286f20d0") false
    blakeSums_holds (fun _ h => by cases h) (by kernel_rfl) (fun _ h => by cases h) blakeSums_row_tie rfl ⟨rfl, rfl⟩ (by kernel_rfl) rfl
    (fun f fn hf hfn => by
      obtain rfl : f = 3 := Option.some.inj ((show Tryd.prog.funcNamed "sigil/sigillaw03.BlakeSums" = some 3 by kernel_rfl).symm.trans hf) |>.symm
      obtain rfl : fn = Tryd.f3 := (Option.some.inj (Tryd.func3.symm.trans hfn)).symm
      exact ⟨by kernel_rfl, fun j t ht => by
        rw [Tryd.params3] at ht
        have hm : t ∈ [9, 3, 22] := by simpa using Array.mem_of_getElem? ht
        have hall : ([9, 3, 22].all fun u => !Tryd.prog.wantsStandIn u) = true := by kernel_rfl
        exact (show Tryd.prog.wantsStandIn t = false by simpa using List.all_eq_true.1 hall t hm)⟩)
    (by kernel_rfl)

#print axioms blakeSums_card
end Go.Proofs.YtolaofoffakddaaDoor
