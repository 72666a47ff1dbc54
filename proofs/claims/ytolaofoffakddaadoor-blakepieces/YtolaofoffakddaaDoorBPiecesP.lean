/- BlakePieces: for every person, length and pieces the call returns true: in whatever pieces bytes are written, a digest tells what the whole is, between them too, and again. Condition: the variables of package blake read as the text lays them when the call begins (the card ties them). -/
import Derived.Test.YtolaofoffakddaaDoorRows
import Derived.Test.YtolaofoffakddaaDoorP3
import Derived.Test.YtolaofoffakddaaDoorBG
import Derived.Test.YtolaofoffakddaaDoorWf
import Derived.Test.YtolaofoffakddaaDoorTie
import Derived.Test.YtolaofoffakddaaDoorCards
import Derived.SevenTiedAt
import Derived.SizedLaws
import Derived.ProofKit
import Derived.Deep.Matrix
import Derived.Laws.IdiomArrays
namespace Go.Proofs.YtolaofoffakddaaDoor
open Go.ChangeShapes Go.WideShapes Go.ChangeAt Go.RowKit
open Go.WideMaps Go.WideElems
open Go.ChangeMaps (setBlock shut_map_nil open_string shut_string keptBut_setBlock frozen?_setBlock heap_setBlock_same)

theorem Tryd.own : ownKnob Tryd.prog.godebug = none := by kernel_rfl
theorem Tryd.cellsB : Tryd.prog.cellsOf 5 = 1 := by kernel_rfl
theorem Tryd.cellsR : Tryd.prog.cellsOf 22 = 1 := by kernel_rfl
theorem weightsAll_mem {H : Type} {P : Program} {e : TypeId} {d : DataW H} {n : Nat} : ∀ {l : List (DataW H)}, d ∈ l → n ∈ d.weights P e → n ∈ DataW.weightsAll P e l
  | x :: l, hd, hn => by
    rw [DataW.weightsAll]
    rcases List.mem_cons.1 hd with rfl | h
    · exact List.mem_append_left _ hn
    · exact List.mem_append_right _ (weightsAll_mem h hn)
theorem Tryd.bytesB : Tryd.prog.bytesOf 5 = 1 := by kernel_rfl
theorem Tryd.laidOut : laidOutB Tryd.prog = true := by kernel_rfl
theorem byte_of {z : Int} (h : (Lit.int .u8 z).wf = true) : 0 ≤ z ∧ z ≤ 255 := by
  have h1 : IntKind.u8.min = 0 := rfl
  have h2 : IntKind.u8.max = 255 := rfl
  simp only [Lit.wf, Bool.and_eq_true, decide_eq_true_eq] at h
  omega
set_option maxRecDepth 100000 in
/-- A slice of slices of bytes that is read. -/
theorem openR {H : Type} {enc : TypeId × Value → H} {W : World} {base : Nat} {v : Value} {d : DataW H} {p : List MemPlace} (hv : Value.okWide Tryd.prog W .any base 30 v) (h : DataW.Trod enc Tryd.prog W 0 (fun _ => true) true 30 v d p)
    (hz : ∀ n, n ∈ d.weights Tryd.prog 30 → n ≤ reachBytes) :
    ∃ (op : Option Addr) (np cp : Nat) (A : Nat → Option Addr) (Ln C : Nat → Nat) (F : Nat → Nat → Nat), v = .slice op np cp ∧ Pcs W op np A Ln C F ∧ (∀ r, r < np → Ln r ≤ 140737488351232) ∧ (∀ r, r < np → ∀ i, i < Ln r → F r i < 256) := by
  obtain ⟨a0, len, cap, rfl⟩ := okWide_slice Tryd.underlying30 hv
  obtain ⟨fuel, hf⟩ := h
  rcases Go.Deep.open_int_rows Tryd.underlying30 Tryd.underlying22 Tryd.underlying5 Tryd.cellsR Tryd.cellsB hf with ⟨hcs, _⟩ | ⟨a, len', cap', A, L, C, Z, hcs, _, hl, _, hx, hrow⟩
  · simp [Value.cells] at hcs
    obtain ⟨rfl, rfl, rfl⟩ := hcs
    exact ⟨none, 0, 0, fun _ => none, fun _ => 0, fun _ => 0, fun _ _ => 0, rfl, fun r hr => by omega, fun r hr => by omega, fun r hr => by omega⟩
  · simp [Value.cells] at hcs
    obtain ⟨rfl, rfl, rfl⟩ := hcs
    simp only [Prod.mk.injEq] at hx
    obtain ⟨rfl, rfl⟩ := hx
    have hC : ∀ r, r < len → C r ≤ 140737488351232 := fun r hr => by
      obtain ⟨_, _, _, k3, _, k5, _⟩ := hrow r (by omega)
      cases e : A r with
      | none => rw [k5 e]; omega
      | some a' =>
        have hm : (C r : Nat) ∈ (DataW.slice (H := H) ((List.range len).map fun r => Go.Deep.intRow .u8 (A r) (L r) (Z r)) ((List.range (cap - len)).map fun j => Go.Deep.intRow .u8 (A (len + j)) (L (len + j)) (Z (len + j)))).weights Tryd.prog 30 := by
          simp only [DataW.weights, Tryd.underlying30]
          refine List.mem_cons_of_mem _ (List.mem_append_left _ ?_)
          refine weightsAll_mem (d := Go.Deep.intRow .u8 (A r) (L r) (Z r)) (List.mem_map.2 ⟨r, List.mem_range.2 hr, rfl⟩) ?_
          simp only [Go.Deep.intRow, e, DataW.weights, Tryd.underlying22, Tryd.bytesB]
          refine List.mem_cons.2 (Or.inl ?_)
          simp only [lits, List.length_map, List.length_take, List.length_drop]
          omega
        have := hz _ hm
        unfold reachBytes at this
        omega
    refine ⟨some a, len, cap, A, L, C, fun r i => ((Z r).getD i 0).toNat, rfl, fun r hr => ?_, fun r hr => ?_, fun r hr i hi => ?_⟩
    · obtain ⟨k0, k1, k2, k3, k4, k5, k6⟩ := hrow r (by omega)
      refine ⟨a, rfl, ?_, k0, k1, k2, fun e => ⟨by have := k5 e; omega, k5 e⟩, fun a' e i hi => ?_⟩
      · have := block_lt_of_cell k0
        rwa [add_block] at this
      · have kc := (k6 a' e).2 i (by omega)
        have hbt := block_lt_of_cell kc
        rw [add_block] at hbt
        refine ⟨hbt, ?_⟩
        have hi2 : i < (Z r).length := by omega
        have hby := byte_of (k4 _ (List.getElem_mem hi2))
        have ez : (Z r).getD i 0 = (Z r)[i] := by simp [List.getD, hi2]
        show _ = some (Value.int .u8 ((((Z r).getD i 0).toNat : Nat) : Int))
        rw [kc, ez, show ((((Z r)[i]).toNat : Nat) : Int) = (Z r)[i] from by omega]
    · obtain ⟨_, k1, _⟩ := hrow r (by omega)
      have := hC r hr
      omega
    · obtain ⟨_, k1, _, k3, k4, _⟩ := hrow r (by omega)
      have hi2 : i < (Z r).length := by omega
      have hby := byte_of (k4 _ (List.getElem_mem hi2))
      have ez : (Z r).getD i 0 = (Z r)[i] := by simp [List.getD, hi2]
      show ((Z r).getD i 0).toNat < 256
      rw [ez]
      omega

/-- The door's own heap meets the condition: closed facts. -/
theorem door_met (os : Os) (args : Array Value) : laidMetH Tryd.prog laidF ((World.doorLaid Tryd.prog 400 os).forCall (fun _ _ => 0) ⟨#[], args, []⟩).memory :=
  laidMetH_of_parts3 (fuel := 8) (laidMet_of_run' 8 (by kernel_rfl) (by kernel_rfl)) (by kernel_rfl) (by kernel_rfl)

set_option maxHeartbeats 1000000 in
set_option maxRecDepth 100000 in
theorem lifted (os : Os) (started : os.Started) (H : Type) (enc : TypeId × Value → H) :
    ReturnsInHanded {} Tryd.checked os 4 .any (fun w args => (Rows.blakePiecesSpec.pre enc Tryd.prog Tryd.f4 [] false w args ∧ laidMetH Tryd.prog laidF w) ∧ sizedMet enc Tryd.prog Tryd.f4 (OpenSpec.ofChange Rows.blakePiecesSpec) false w args)
      (Rows.blakePiecesSpec.post enc Tryd.prog Tryd.f4 false true false false) := by
  refine returnsInHanded_of_change_and (C := Tryd.checked) (X := fun w _ => laidMetH Tryd.prog laidF w) (fun _ _ _ hh h => h.of_heap hh) Tryd.own started (by kernel_rfl) Tryd.func4
    (ChangeSpec.witness_shaped (enc := enc) (C := Tryd.checked) (os := os) (X := fun w _ => laidMetH Tryd.prog laidF w) false (World.doorLaid Tryd.prog 400 os) #[.string ByteArray.empty, .int .i64 0, .slice none 0 0] 8 rfl (World.shaped_of_RefB (by kernel_rfl) (by kernel_rfl)) (by kernel_rfl) (by kernel_rfl) (by kernel_rfl) (door_met os _)) ?_
  intro W base args ds gs before hval0 hW _ hsz0 hL _
  have hval : ∀ (j : Nat) t v, Tryd.f4.params[j]? = some t → args[j]? = some v → Value.okWide Tryd.prog W .any base t v := hval0
  have hW' := hW
  obtain ⟨p, q, hA0, hV, rfl, _, _⟩ := hW
  have hA : DataW.TrodAll enc Tryd.prog W 0 (fun _ => true) true Tryd.f4.params.toList args.toList ds p := hA0
  rw [Tryd.params4] at hA hval
  have hsz : (DataW.weightsEach Tryd.prog (Tryd.f4.params.toList ++ Rows.blakePiecesSpec.plain.varTypes Tryd.prog) (ds ++ gs)).all (· ≤ reachBytes) = true := hsz0
  clear hsz0
  rw [Tryd.params4] at hsz
  obtain ⟨v0, v1, v2, d0, d1, d2, p0, p1, p2, rfl, rfl, rfl, h0, h1, h2⟩ := trodAll_three hA
  obtain ⟨rfl, rfl⟩ := trodVars_none hV
  obtain ⟨x0, rfl, rfl, rfl, hx0⟩ := open_string Tryd.underlying9 (hval 0 9 v0 rfl rfl) h0
  obtain ⟨x1, rfl, rfl, rfl, hx1⟩ := open_int Tryd.underlying3 (hval 1 3 v1 rfl rfl) h1
  have h2k := h2
  obtain ⟨op, np, cp, A, Ln, C, F, rfl, hP, hLn, hF⟩ := openR (hval 2 30 v2 rfl rfl) h2 (fun n hn => by have := List.all_eq_true.1 hsz _ (DataW.weights_mem_each (j := 2) rfl rfl n hn); simpa using this)
  clear hA0 hval0
  simp only [List.append_nil, List.nil_append] at hW'
  refine (pieces_walk x0 x1 op np cp A Ln C F W hP hLn hF (glob_of_laid hL)).mono fun e W' ⟨he, hb⟩ => ?_
  subst he
  have r1 : (Rows.blakePiecesSpec.fn H ([.lit (.string x0.data.toList), .lit (.int .i64 x1), d2] ++ [])).results = [.lit (.bool true)] := by simp [Rows.blakePiecesSpec]
  have a1 : (Rows.blakePiecesSpec.fn H ([.lit (.string x0.data.toList), .lit (.int .i64 x1), d2] ++ [])).args = [.lit (.string x0.data.toList), .lit (.int .i64 x1), d2] := by simp [Rows.blakePiecesSpec]
  have v1 : (Rows.blakePiecesSpec.fn H ([.lit (.string x0.data.toList), .lit (.int .i64 x1), d2] ++ [])).vars = [] := by simp [Rows.blakePiecesSpec]
  refine ⟨_, rfl, _, _, _, [], ([] ++ ([] ++ p2)), [], hW', ?_, ?_, ?_, hb.frame _, fun h => by cases h⟩
  · rw [r1]; exact trodAll_mk1 (shut_bool Tryd.underlying4 true)
  · rw [a1]; exact trodAll_mk3 (shut_string Tryd.underlying9 hx0) (shut_int Tryd.underlying3 hx1) (Below.trod Tryd.laidOut (by kernel_rfl) (of_decide_eq_true (by kernel_rfl)) h2k hb (fun x hx => by simpa using hW'.lt x (by simp [hx])))
  · rw [v1]; rfl

theorem blakePieces_holds : Rows.BlakePiecesSaid :=
  OpenClaim.holds_of_wide 4 Tryd.f4 rfl rfl rfl rfl rfl rfl rfl ⟨rfl, rfl, rfl, rfl, rfl⟩ rfl rfl rfl rfl rfl (by kernel_rfl) Tryd.func4 (by kernel_rfl)
    (of_decide_eq_true (by kernel_rfl)) (by unfold Func.isWrapper; first | (rw [if_pos (by decide +kernel)]; kernel_rfl) | (rw [if_neg (by decide +kernel)]; exact ⟨rfl, rfl⟩))
    (fun os started H enc _ => lifted os started H enc)

/-- The card: the row, its listed variables tied to the program's text. -/
theorem blakePieces_card : Rows.BlakePiecesCardSaid :=
  Claim7.holds_tied_plain_at .later [] [.data, .data] true (true, "6b09db40578791603e1387f4c44ba02b12d42f501eaf74f1920a4d7c286f20d0") false
    blakePieces_holds (fun _ h => by cases h) (by kernel_rfl) (fun _ h => by cases h) blakePieces_row_tie rfl ⟨rfl, rfl⟩ (by kernel_rfl) rfl
    (fun f fn hf hfn => by
      obtain rfl : f = 4 := Option.some.inj ((show Tryd.prog.funcNamed "sigil/sigillaw03.BlakePieces" = some 4 by kernel_rfl).symm.trans hf) |>.symm
      obtain rfl : fn = Tryd.f4 := (Option.some.inj (Tryd.func4.symm.trans hfn)).symm
      exact ⟨by kernel_rfl, fun j t ht => by
        rw [Tryd.params4] at ht
        have hm : t ∈ [9, 3, 30] := by simpa using Array.mem_of_getElem? ht
        have hall : ([9, 3, 30].all fun u => !Tryd.prog.wantsStandIn u) = true := by kernel_rfl
        exact (show Tryd.prog.wantsStandIn t = false by simpa using List.all_eq_true.1 hall t hm)⟩)
    (by kernel_rfl)

#print axioms blakePieces_card
end Go.Proofs.YtolaofoffakddaaDoor
