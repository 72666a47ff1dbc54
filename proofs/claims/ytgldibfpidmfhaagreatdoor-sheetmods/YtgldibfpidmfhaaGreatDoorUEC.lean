/- The map of a circuit's three counts, by their kinds. No walk. -/
import Derived.Test.YtgldibfpidmfhaaGreatDoorUCCN
import Derived.Maps.OwnSet
import Derived.Maps.OwnOps
import Derived.Test.YtgldibfpidmfhaaGreatDoorUCX
namespace Go.Proofs.YtgldibfpidmfhaaGreatDoor
open Go.RowKit
open Go.Maps
theorem lawI : Keyed Tryz.prog 3 := int_keyed Tryz.underlying3
theorem zeroI (w : World) : (zeroValue 3).run Tryz.prog w = .ok (.int .i64 0) w := by kernel_rfl
/-- An entry of a map that is written out, as an operation. -/
theorem wpList_insert_own {H : Type} {P : Program} (w : World) {ops : Array Oper} {rest : List Oper} {o : Oper} {a : Act} {Q : Exit → Act → World → Prop}
    (hg : o.guard = none) (m x v : Operand) (t : TypeId) (hop : o.op = Op.insert t m x v)
    (k e : TypeId) (K : Keyed P k) (ht : P.underlying t = some (.map k e)) (R : Value → Option (DataW H × List MemPlace)) (b n : Nat) (D : DataW H)
    (hm : a.eval m = .map (some b)) (hown : w.ownsMap P k R b n D) (hn : n < maxLen) (key val : Value) (kl : Lit) (hx : a.eval x = key) (hv : a.eval v = val) (hkey : keyOf P k key = some kl)
    (d : DataW H) (ps : List MemPlace) (hval : R val = some (d, ps))
    (hK : ∀ w', w'.ownsMap P k R b (n + 1) (D.put kl d) → w.grownBy w' (some b) → wpList P ops Q rest (a.put o.dst undef) w') :
    wpList P ops Q (o :: rest) a w := by
  refine wpList_plain hg fun K' hK' => ?_
  obtain ⟨w', hrun, r1, r2⟩ := hown.update K ht hn hkey hval
  unfold Oper.wp
  simp [execOp, hop, hm, hx, hv, hrun, Result.andThen]
  exact hK' _ _ (hK w' r1 r2)
theorem own_map_below {H : Type} {P : Program} {k : TypeId} {R : Value → Option (DataW H × List MemPlace)} {w w' : World} {b n : Nat} {D : DataW H} (h : w.ownsMap P k R b n D) (hb : Below w.heap.size w w') : w'.ownsMap P k R b n D := by
  have hlt := h.lt
  obtain ⟨es, clock, hb', F, hs, hD⟩ := h
  exact ⟨es, clock, (hb.block b hlt).trans hb', F, hs, hD⟩
def rng (x : Int) : Prop := -9223372036854775808 ≤ x ∧ x ≤ 9223372036854775807
/-- The counts by their kinds, as data. -/
def colD1 (F : Int) : DataW Unit := (DataW.map []).put (.int .i64 2) (.lit (.int .i64 F))
def colD2 (F A : Int) : DataW Unit := (colD1 F).put (.int .i64 3) (.lit (.int .i64 A))
def colD (F A I : Int) : DataW Unit := (colD2 F A).put (.int .i64 4) (.lit (.int .i64 I))
def colOf (F A I k : Int) : Int := if k = 2 then F else if k = 3 then A else if k = 4 then I else 0
theorem isMap1 (F : Int) : IsMap (colD1 F) := isMap_empty.put _ _
theorem isMap2 (F A : Int) : IsMap (colD2 F A) := (isMap1 F).put _ _
theorem lit_ne {a b : Int} (h : ¬ a = b) : (Lit.int .i64 a) ≠ (Lit.int .i64 b) := fun e => by cases e; exact h rfl
theorem colD_at (F A I k : Int) : (colD F A I).atKey (.int .i64 k) (.lit (.int .i64 0)) = .lit (.int .i64 (colOf F A I k)) := by
  unfold colOf
  by_cases h4 : k = 4
  · subst h4
    rw [if_neg (by decide), if_neg (by decide), if_pos rfl]
    exact atKey_put_same (isMap2 F A) (by simp [WideAt.IsKeyLit]) _ _
  · rw [colD, atKey_put_other (lit_ne h4)]
    by_cases h3 : k = 3
    · subst h3
      rw [if_neg (by decide), if_pos rfl]
      exact atKey_put_same (isMap1 F) (by simp [WideAt.IsKeyLit]) _ _
    · rw [colD2, atKey_put_other (lit_ne h3)]
      by_cases h2 : k = 2
      · subst h2
        rw [if_pos rfl]
        exact atKey_put_same isMap_empty (by simp [WideAt.IsKeyLit]) _ _
      · rw [if_neg h2, if_neg h3, if_neg h4, colD1, atKey_put_other (lit_ne h2)]
        rfl
/-- Block b is the map of the three counts. -/
def MapI (w : World) (b : Nat) (F A I : Int) : Prop := w.ownsMap (H := Unit) Tryz.prog 3 (plainElem Tryz.prog 3) b 3 (colD F A I)
theorem MapI.below {w w' : World} {b : Nat} {F A I : Int} (h : MapI w b F A I) (hb : Below w.heap.size w w') : MapI w' b F A I := own_map_below h hb
theorem MapI.lt {w : World} {b : Nat} {F A I : Int} (h : MapI w b F A I) : b < w.heap.size := World.ownsMap.lt h
theorem MapI.keep {w w' : World} {b : Nat} {F A I : Int} (h : MapI w b F A I) (hb : w'.heap[b]? = w.heap[b]?) : MapI w' b F A I := by
  obtain ⟨es, clock, hb', F, hs, hD⟩ := h
  exact ⟨es, clock, hb.trans hb', F, hs, hD⟩
theorem MapI.look {w : World} {b : Nat} {F A I : Int} (h : MapI w b F A I) (k : Int) (hk : rng k) : (Instr.lookup 200 (.map (some b)) (.int .i64 k) false).run Tryz.prog w = .ok (.int .i64 (colOf F A I k)) w := by
  obtain ⟨c, hrun, hat, _⟩ := World.ownsMap.lookup_int h lawI Tryz.underlying200 Tryz.underlying3 (zeroI w) (keyOf_int_mk Tryz.underlying3 (WalkArith.wf_i64 hk))
  rw [colD_at] at hat
  cases hat
  exact hrun
end Go.Proofs.YtgldibfpidmfhaaGreatDoor

/- expr.Check. -/
namespace Go.Proofs.YtgldibfpidmfhaaGreatDoor
open Go.RowKit
open Go.Maps
def isQ (O : Int) : Bool := decide (2 ≤ O ∧ O ≤ 4)
/-- Does the node fit the counts, where it is a query? -/
def fitN (T : Int × Int × Int × Nat) (F A I : Int) : Bool := !isQ T.1 || fitB T.2.1 T.2.2.1 (colOf F A I T.1)
def chkB (n : Nat) (T : Nat → Int × Int × Int × Nat) (F A I : Int) : Bool := decide (n ≤ 64) && (ordB n T && decide (∀ i, i < n → fitN (T i) F A I = true))
def err (b : Bool) (e : Int) : Int := if b = true then 0 else e
theorem opT_q (T : Int × Int × Int × Nat) (h : isQ T.1 = true) : opT T = .iface 151 (.agg #[.int .i64 T.1, .int .i64 T.2.1, .int .i64 T.2.2.1]) := by
  have h1 := of_decide_eq_true h
  unfold opT opV
  rw [if_neg (by omega), if_pos (by omega)]
theorem opT_n (T : Int × Int × Int × Nat) (h : isQ T.1 = false) (ho : okO T.1 = true) : ∃ ty pv, opT T = .iface ty pv ∧ ∀ w, (Instr.typeAssert (.iface ty pv) 147 151 true).run Tryz.prog w = .ok (.tuple #[.agg #[.int .i64 0, .int .i64 0, .int .i64 0], .bool false]) w := by
  obtain ⟨O, A, B, V⟩ := T
  have h1 : ¬ (2 ≤ O ∧ O ≤ 4) := of_decide_eq_false h
  have h2 : 1 ≤ O ∧ O ≤ 8 := of_decide_eq_true ho
  have hc : O = 1 ∨ O = 5 ∨ O = 6 ∨ O = 7 ∨ O = 8 := by omega
  rcases hc with rfl | rfl | rfl | rfl | rfl
  all_goals exact ⟨_, _, rfl, fun w => as_other w (d := .struct (Tryz.prog.fieldsOf 151)) (by kernel_rfl) rfl (by decide) (by kernel_rfl)⟩
theorem as_q (O A B : Int) (w : World) : (Instr.typeAssert (.iface 151 (.agg #[.int .i64 O, .int .i64 A, .int .i64 B])) 147 151 true).run Tryz.prog w = .ok (.tuple #[.agg #[.int .i64 O, .int .i64 A, .int .i64 B], .bool true]) w := as_same w (d := .struct (Tryz.prog.fieldsOf 151)) (by kernel_rfl) rfl
set_option maxHeartbeats 4000000 in
theorem check_long (n cn : Nat) (oa : Option Addr) (F A I : Int) (hn : 64 < n) (w : World) :
    Calls Tryz.prog 103 #[.slice oa n cn, .int .i64 F, .int .i64 A, .int .i64 I] w fun e w' => e = .returned (.int .i64 110) ∧ w' = w := by
  have h1 : (64 : Int) < (n : Int) := by omega
  go_enter Tryz.func103, Tryz.ntmps103
  go_wp2
  go_ret
  exact ⟨rfl, rfl⟩
set_option maxHeartbeats 16000000 in
set_option maxRecDepth 100000 in
theorem check_in (n cn : Nat) (oa : Option Addr) (T : Nat → Int × Int × Int × Nat) (F A I : Int) (hF : rng F) (hA : rng A) (hI : rng I) (hn : n ≤ 64) (w : World) (hv : Rs w (.slice oa n cn) 7 n (fun i => nC (T i))) :
    Calls Tryz.prog 103 #[.slice oa n cn, .int .i64 F, .int .i64 A, .int .i64 I] w fun e w' => e = .returned (.int .i64 (err (chkB n T F A I) 110)) ∧ Below w.heap.size w w' := by
  have HORD : Hid (Calls _ _ _ _ _) := ordered_any n cn oa T (by omega) w hv
  have HFF : Hid (rng F) := hF
  have HFA : Hid (rng A) := hA
  have HFI : Hid (rng I) := hI
  have hmm := @run_makeMap Tryz.prog
  have h64 : ¬ (64 : Int) < (n : Int) := by omega
  obtain ⟨E, eE⟩ : ∃ E, E = err (chkB n T F A I) 110 := ⟨_, rfl⟩
  rw [← eE]
  have HEE : Hid (E = err (chkB n T F A I) 110) := eE
  have HN : Hid (n ≤ 64) := hn
  clear hv eE hF hA hI hn
  go_enter Tryz.func103, Tryz.ntmps103
  go_wp2_with fail
  refine Calls.mono HORD.out ?_
  rintro e w1 ⟨hh | hh, hb1⟩
  rotate_left
  · obtain ⟨ho, rfl⟩ := hh
    have HF : Hid (E = 110) := by
      show E = 110
      rw [HEE.out]; unfold chkB; rw [ho, Bool.false_and, Bool.and_false]; rfl
    clear HORD HEE ho
    go_wp2
    go_ret
    exact ⟨by rw [HF.out]; rfl, hb1⟩
  obtain ⟨ho, L, rfl, lL, bL⟩ := hh
  have HOR : Hid (ordB n T = true) := ho
  have ho' : ∀ i, i < n → okN (T i) i = true := of_decide_eq_true ho
  have HO : Hid (∀ i, i < n → okN (T i) i = true) := ho'
  have HOM : Hid ((w1.alloc (.map #[] 0)).ownsMap (H := Unit) Tryz.prog 3 (plainElem Tryz.prog 3) w1.heap.size 0 (.map [])) := World.ownsMap_made w1 Tryz.prog 3 _
  have HBM : Hid (Below w.heap.size w (w1.alloc (.map #[] 0))) := bAlloc hb1 _
  have HBL : Hid (BlkR w1 147 L 1 n (fun i _ => opT (T i))) := bL
  obtain ⟨B, eB⟩ : ∃ B, B = w1.heap.size := ⟨_, rfl⟩
  have HLB : Hid (w.heap.size ≤ B) := by rw [eB]; exact hb1.size
  have HBG : Hid (L < B) := by rw [eB]; exact bL.lt
  have HGM : Hid (∀ i, i < B → (w1.alloc (.map #[] 0)).heap[i]? = w1.heap[i]?) := fun i hi => by
    have : i < w1.heap.size := by rw [← eB]; exact hi
    show (w1.heap.push _)[i]? = _
    rw [Array.getElem?_push_lt this, Array.getElem?_eq_getElem this]
  rw [← eB] at HOM
  clear HORD ho ho' bL lL
  go_wp2_with (first
    | (rw [← eB]; refine wpList_insert_own _ rfl _ _ _ 200 rfl 3 3 lawI Tryz.underlying200 (plainElem Tryz.prog 3) B 0 (.map []) rfl HOM.out (by decide) _ _ _ rfl rfl (keyOf_int_mk Tryz.underlying3 (by decide)) (.lit (.int .i64 F)) [] (plainElem_int Tryz.underlying3 (WalkArith.wf_i64 HFF.out)) ?_)
    | go_in)
  intro w2 hown2 hg2
  rw [← eB] at hown2 hg2 ⊢
  have HEB : Hid (B = w1.heap.size) := eB
  clear eB
  have HO2 : Hid (w2.ownsMap (H := Unit) Tryz.prog 3 (plainElem Tryz.prog 3) B 1 (colD1 F)) := hown2
  have HG2 : Hid ((w1.alloc (.map #[] 0)).grownBy w2 (some B)) := hg2
  clear hown2 hg2 HOM
  go_wp2_with (first
    | (refine wpList_insert_own _ rfl _ _ _ 200 rfl 3 3 lawI Tryz.underlying200 (plainElem Tryz.prog 3) B 1 (colD1 F) rfl HO2.out (by decide) _ _ _ rfl rfl (keyOf_int_mk Tryz.underlying3 (by decide)) (.lit (.int .i64 A)) [] (plainElem_int Tryz.underlying3 (WalkArith.wf_i64 HFA.out)) ?_)
    | go_in)
  intro w3 hown3 hg3
  have HO3 : Hid (w3.ownsMap (H := Unit) Tryz.prog 3 (plainElem Tryz.prog 3) B 2 (colD2 F A)) := hown3
  have HG3 : Hid (w2.grownBy w3 (some B)) := hg3
  clear hown3 hg3 HO2
  go_wp2_with (first
    | (refine wpList_insert_own _ rfl _ _ _ 200 rfl 3 3 lawI Tryz.underlying200 (plainElem Tryz.prog 3) B 2 (colD2 F A) rfl HO3.out (by decide) _ _ _ rfl rfl (keyOf_int_mk Tryz.underlying3 (by decide)) (.lit (.int .i64 I)) [] (plainElem_int Tryz.underlying3 (WalkArith.wf_i64 HFI.out)) ?_)
    | go_in)
  intro w4 hown4 hg4
  have HMP : Hid (MapI w4 B F A I) := hown4
  have hb2 : Below w.heap.size w w2 := HBM.out.grown HG2.out HBM.out.size (fun j hj => by cases hj; exact HLB.out)
  have hb3 : Below w.heap.size w w3 := hb2.grown HG3.out hb2.size (fun j hj => by cases hj; exact HLB.out)
  have HB4 : Hid (Below w.heap.size w w4) := hb3.grown hg4 hb3.size (fun j hj => by cases hj; exact HLB.out)
  have HBL4 : Hid (BlkR w4 147 L 1 n (fun i _ => opT (T i))) := by
    obtain ⟨c, hc, hrest⟩ := HBL.out
    refine ⟨c, ?_, hrest⟩
    have hl : L < w1.heap.size := (Array.getElem?_eq_some_iff.1 hc).1
    have hne : some L ≠ some B := fun e => by cases e; exact Nat.lt_irrefl _ HBG.out
    have s1 : w1.heap.size < (w1.alloc (.map #[] 0)).heap.size := by simp
    have s2 := HG2.out.size; have s3 := HG3.out.size
    rw [hg4.block L (by omega) hne, HG3.out.block L (by omega) hne, HG2.out.block L (by omega) hne, HGM.out L HBG.out]
    exact hc
  clear hown4 hg4 HO3 hb2 hb3 HG2 HG3 HGM HBL HBM hb1 hmm HFF HFA HFI
  go_wp2
  go_loopw [33] (fun iv wr => ∃ k : Nat, iv = .int .i64 (k : Int) ∧ k ≤ n ∧ Below w4.heap.size w4 wr ∧ Hid (∀ i, i < k → fitN (T i) F A I = true)) (fun iv _ => n - (intOf iv).toNat)
  case atStart => exact ⟨0, rfl, Nat.zero_le _, Below.refl _ _, fun i hi => by omega⟩
  case round =>
    obtain ⟨k, rfl, hk, hbr, HALL⟩ := hrel
    by_cases hlt : k < n
    · have hki : (k : Int) < (n : Int) := by omega
      have hk0 : (0 : Int) ≤ (k : Int) := by omega
      have a0 := (HBL4.out.belowAll hbr).cell k hlt 0 (by decide)
      rw [Nat.mul_one, Nat.add_zero] at a0
      have HBR : Hid (Below w.heap.size w wr) := HB4.out.trans (hbr.mono HB4.out.size)
      obtain ⟨bq, ebq⟩ : ∃ b, b = isQ (T k).1 := ⟨_, rfl⟩
      cases bq
      · obtain ⟨ty, pv, eif, hta⟩ := opT_n (T k) ebq.symm (by have h := HO.out k hlt; unfold okN at h; rw [Bool.and_eq_true] at h; exact h.1)
        rw [eif] at a0
        have HN2 : Hid (∀ i, i < k + 1 → fitN (T i) F A I = true) := fun i hi => by
          rcases Nat.lt_or_ge i k with h | h
          · exact HALL.out i h
          · rw [show i = k by omega]; unfold fitN; rw [← ebq]; rfl
        have HBN : Hid (Below w4.heap.size w4 (wr.alloc (.cells #[.int .i64 0, .int .i64 0, .int .i64 0] 151))) := bAlloc hbr _
        clear ebq eif hbr
        go_wp2
        go_roundw
        case measure => simp [intOf]; omega
        case rel => exact ⟨k + 1, by go_num, hlt, HBN.out, HN2⟩
      · obtain ⟨O, X, Y, V, hE⟩ : ∃ O X Y V, T k = (O, X, Y, V) := ⟨_, _, _, _, rfl⟩
        rw [opT_q (T k) ebq.symm, hE] at a0
        dsimp only at a0
        have hO : 2 ≤ O ∧ O ≤ 4 := by rw [hE] at ebq; exact of_decide_eq_true ebq.symm
        have hta := as_q O X Y
        have hlk : ∀ o, (Instr.lookup 200 (.map (some B)) (.int .i64 O) false).run Tryz.prog (wr.alloc o) = .ok (.int .i64 (colOf F A I O)) (wr.alloc o) := fun o => ((HMP.out.below hbr).below (bAlloc (Below.refl _ _) o)).look O ⟨by omega, by omega⟩
        obtain ⟨c, ec⟩ : ∃ c, c = colOf F A I O := ⟨_, rfl⟩
        rw [← ec] at hlk
        have HKN : Hid (fitN (T k) F A I = fitB X Y c) := by
          show fitN (T k) F A I = fitB X Y c
          unfold fitN; rw [← ebq, hE, ec]; rfl
        have HBN : Hid (Below w4.heap.size w4 (wr.alloc (.cells #[.int .i64 O, .int .i64 X, .int .i64 Y] 151))) := bAlloc hbr _
        have HBW : Hid (Below w.heap.size w (wr.alloc (.cells #[.int .i64 O, .int .i64 X, .int .i64 Y] 151))) := bAlloc HBR.out _
        clear ebq hE hbr ec hO
        go_wp2_with fail
        refine (fits_any O X Y c _).mono ?_
        rintro e w5 ⟨rfl, hb5⟩
        have HB5 : Hid (Below w4.heap.size w4 w5) := bStep HBN.out hb5
        have HW5 : Hid (Below w.heap.size w w5) := bStep HBW.out hb5
        obtain ⟨bf, ebf⟩ : ∃ b, b = fitB X Y c := ⟨_, rfl⟩
        rw [← ebf] at HKN ⊢
        clear ebf hb5 hlk HBN HBW a0 hta
        cases bf
        · have HF : Hid (E = 110) := by
            show E = 110
            rw [HEE.out]; unfold chkB
            rw [decide_eq_false (p := ∀ i, i < n → fitN (T i) F A I = true) (fun a => by have h := a k hlt; rw [HKN.out] at h; cases h), Bool.and_false, Bool.and_false]; rfl
          go_wp2
          go_ret
          exact ⟨by rw [HF.out]; rfl, HW5.out⟩
        · have HN2 : Hid (∀ i, i < k + 1 → fitN (T i) F A I = true) := fun i hi => by
            rcases Nat.lt_or_ge i k with h | h
            · exact HALL.out i h
            · rw [show i = k by omega]; exact HKN.out
          go_wp2
          go_roundw
          case measure => simp [intOf]; omega
          case rel => exact ⟨k + 1, by go_num, hlt, HB5.out, HN2⟩
    · have hki : ¬ (k : Int) < (n : Int) := by omega
      have HBR : Hid (Below w.heap.size w wr) := HB4.out.trans (hbr.mono HB4.out.size)
      have HF : Hid (E = 0) := by
        show E = 0
        rw [HEE.out]; unfold chkB
        rw [decide_eq_true HN.out, HOR.out, decide_eq_true (p := ∀ i, i < n → fitN (T i) F A I = true) (fun i hi => HALL.out i (by omega))]; rfl
      clear hbr HALL
      go_wp2
      go_ret
      exact ⟨by rw [HF.out]; rfl, HBR.out⟩
end Go.Proofs.YtgldibfpidmfhaaGreatDoor

/- circuit.every: a function holds of every one in a list. -/
namespace Go.Proofs.YtgldibfpidmfhaaGreatDoor
open Go.RowKit
/-- A lookup's two cells, a column's two cells. -/
def pC (T : Value × Value) (j : Nat) : Value := if j = 0 then T.1 else T.2
theorem pC_one (T : Value × Value) (h : T.1.oneCell' = true ∧ T.2.oneCell' = true) (j : Nat) : (pC T j).oneCell' = true := by
  unfold pC
  split
  · exact h.1
  · exact h.2
/-- Every call of a function number k enters its body. -/
def Ent (k : FuncId) : Prop := ∀ (w : World) (args : Array Value), (callFunc k args).run Tryz.prog w = .ok (.enter k args) w
def evB (n : Nat) (p : Nat → Bool) : Bool := decide (∀ i, i < n → p i = true)
set_option maxHeartbeats 16000000 in
set_option maxRecDepth 100000 in
theorem everyI (n : Nat) (v : Value) (f : Nat → Int) (k : FuncId) (hk : Ent k) (bd fr : Array Value) (p : Nat → Bool) (J : Nat → World → Prop) (hn : n ≤ 1000000000000000) (w : World) (h0 : J 0 w)
    (hR : ∀ i w', J i w' → Rs w' v 1 n (fun i _ => .int .i64 (f i))) (hA : ∀ i w' o, J i w' → J i (w'.alloc o))
    (HC : ∀ i, i < n → ∀ w', J i w' → Calls Tryz.prog k ((bd ++ #[.int .i64 (f i)]) ++ fr) w' fun e w2 => e = .returned (.bool (p i)) ∧ J (i + 1) w2) :
    Calls Tryz.prog 129 #[v, .func (.func k) bd fr] w fun e w' => e = .returned (.bool (evB n p)) ∧ ∃ i, i ≤ n ∧ J i w' := by
  obtain ⟨oa, cn, rfl⟩ := (hR 0 w h0).shape
  have HR : Hid (∀ i w', J i w' → Rs w' (.slice oa n cn) 1 n (fun i _ => .int .i64 (f i))) := hR
  have HA : Hid (∀ i w' o, J i w' → J i (w'.alloc o)) := hA
  have HCC : Hid (∀ i, i < n → ∀ w', J i w' → Calls Tryz.prog k ((bd ++ #[.int .i64 (f i)]) ++ fr) w' fun e w2 => e = .returned (.bool (p i)) ∧ J (i + 1) w2) := HC
  have HEN : Hid (Ent k) := hk
  obtain ⟨bA, ebA⟩ : ∃ b, b = evB n p := ⟨_, rfl⟩
  rw [← ebA]
  have HBA : Hid (bA = evB n p) := ebA
  clear hR hA HC hk ebA
  go_enter Tryz.func129, Tryz.ntmps129
  go_wp2
  go_loopw [9] (fun iv wr => ∃ q : Nat, iv = .int .i64 (q : Int) ∧ q ≤ n ∧ J q wr ∧ Hid (∀ i, i < q → p i = true)) (fun iv _ => n - (intOf iv).toNat)
  case atStart => exact ⟨0, rfl, Nat.zero_le _, h0, fun i hi => by omega⟩
  case round =>
    obtain ⟨q, rfl, hq, hJ, HALL⟩ := hrel
    clear h0
    by_cases hlt : q < n
    · have hki : (q : Int) < (n : Int) := by omega
      have hk0 : (0 : Int) ≤ (q : Int) := by omega
      rcases HR.out q wr hJ with ⟨_, h0⟩ | ⟨ab, ao, c', hv, _, _, lab, hcell⟩
      · omega
      cases hv
      have HJ : Hid (J q wr) := hJ
      have a0 := hcell q hlt 0 (by decide)
      dsimp only at a0
      rw [Nat.add_zero, Nat.mul_one] at a0
      have HJ1 := HJ
      clear hcell lab hJ
      have hent : ∀ (w : World) (args : Array Value), (callFunc k args).run Tryz.prog w = .ok (.enter k args) w := HEN.out

      go_wp2_with fail
      refine (HCC.out q hlt _ HJ1.out).mono ?_
      rintro e w2 ⟨rfl, hJ2⟩
      have HJ2 : Hid (J (q + 1) w2) := hJ2
      obtain ⟨bq, ebq⟩ : ∃ b, b = p q := ⟨_, rfl⟩
      rw [← ebq]
      have HP : Hid (bq = p q) := ebq
      clear hJ2 ebq hent
      cases bq
      · have HF : Hid (bA = false) := HBA.out.trans (decide_eq_false (fun a => by have h := a q hlt; rw [← HP.out] at h; cases h))
        go_wp2
        go_ret
        exact ⟨by rw [HF.out]; rfl, q + 1, hlt, HJ2.out⟩
      · have HN : Hid (∀ i, i < q + 1 → p i = true) := fun i hi => by
          rcases Nat.lt_or_ge i q with h | h
          · exact HALL.out i h
          · rw [show i = q by omega]; exact HP.out.symm
        go_wp2
        go_roundw
        case measure => simp [intOf]; omega
        case rel => exact ⟨q + 1, by go_num, hlt, HJ2.out, HN⟩
    · have hki : ¬ (q : Int) < (n : Int) := by omega
      have HF : Hid (bA = true) := HBA.out.trans (decide_eq_true (fun i hi => HALL.out i (by omega)))
      have HJ : Hid (J q wr) := hJ
      clear hJ
      go_wp2
      go_ret
      exact ⟨by rw [HF.out]; rfl, q, hq, HJ.out⟩
set_option maxHeartbeats 16000000 in
set_option maxRecDepth 100000 in
theorem everyL (n : Nat) (v : Value) (f : Nat → Value × Value) (hone : ∀ i, i < n → (∃ o m c, (f i).1 = .slice o m c) ∧ ∃ o m c, (f i).2 = .slice o m c) (k : FuncId) (hk : Ent k) (bd fr : Array Value) (p : Nat → Bool) (J : Nat → World → Prop) (hn : n ≤ 1000000000000000) (w : World) (h0 : J 0 w)
    (hR : ∀ i w', J i w' → Rs w' v 2 n (fun i => pC (f i))) (hA : ∀ i w' o, J i w' → J i (w'.alloc o))
    (HC : ∀ i, i < n → ∀ w', J i w' → Calls Tryz.prog k ((bd ++ #[.agg #[(f i).1, (f i).2]]) ++ fr) w' fun e w2 => e = .returned (.bool (p i)) ∧ J (i + 1) w2) :
    Calls Tryz.prog 133 #[v, .func (.func k) bd fr] w fun e w' => e = .returned (.bool (evB n p)) ∧ ∃ i, i ≤ n ∧ J i w' := by
  obtain ⟨oa, cn, rfl⟩ := (hR 0 w h0).shape
  have HR : Hid (∀ i w', J i w' → Rs w' (.slice oa n cn) 2 n (fun i => pC (f i))) := hR
  have HA : Hid (∀ i w' o, J i w' → J i (w'.alloc o)) := hA
  have HCC : Hid (∀ i, i < n → ∀ w', J i w' → Calls Tryz.prog k ((bd ++ #[.agg #[(f i).1, (f i).2]]) ++ fr) w' fun e w2 => e = .returned (.bool (p i)) ∧ J (i + 1) w2) := HC
  have HEN : Hid (Ent k) := hk
  obtain ⟨bA, ebA⟩ : ∃ b, b = evB n p := ⟨_, rfl⟩
  rw [← ebA]
  have HBA : Hid (bA = evB n p) := ebA
  clear hR hA HC hk ebA
  go_enter Tryz.func133, Tryz.ntmps133
  go_wp2
  go_loopw [9] (fun iv wr => ∃ q : Nat, iv = .int .i64 (q : Int) ∧ q ≤ n ∧ J q wr ∧ Hid (∀ i, i < q → p i = true)) (fun iv _ => n - (intOf iv).toNat)
  case atStart => exact ⟨0, rfl, Nat.zero_le _, h0, fun i hi => by omega⟩
  case round =>
    obtain ⟨q, rfl, hq, hJ, HALL⟩ := hrel
    clear h0
    by_cases hlt : q < n
    · have hki : (q : Int) < (n : Int) := by omega
      have hk0 : (0 : Int) ≤ (q : Int) := by omega
      rcases HR.out q wr hJ with ⟨_, h0⟩ | ⟨ab, ao, c', hv, _, _, lab, hcell⟩
      · omega
      cases hv
      have HJ : Hid (J q wr) := hJ
      obtain ⟨⟨o0, n0, c0, e0⟩, o1, n1, c1, e1⟩ := hone q hlt
      have a0 := hcell q hlt 0 (by decide); have a1 := hcell q hlt 1 (by decide)
      dsimp only at a0 a1
      rw [show pC (f q) 0 = .slice o0 n0 c0 from e0] at a0
      rw [show pC (f q) 1 = .slice o1 n1 c1 from e1] at a1
      rw [Nat.add_zero] at a0
      have HJ1 : Hid (J q (wr.alloc (.cells #[.slice o0 n0 c0, .slice o1 n1 c1] 62))) := HA.out q wr _ HJ.out
      have HXE : Hid (f q = (.slice o0 n0 c0, .slice o1 n1 c1)) := by show f q = _; rw [← e0, ← e1]
      clear hcell lab hJ
      have hent : ∀ (w : World) (args : Array Value), (callFunc k args).run Tryz.prog w = .ok (.enter k args) w := HEN.out
      clear e0 e1
      go_wp2_with fail
      refine (show Calls Tryz.prog k ((bd ++ #[.agg #[.slice o0 n0 c0, .slice o1 n1 c1]]) ++ fr) (wr.alloc (.cells #[.slice o0 n0 c0, .slice o1 n1 c1] 62)) _ from by have h := HCC.out q hlt _ HJ1.out; rw [HXE.out] at h; exact h).mono ?_
      rintro e w2 ⟨rfl, hJ2⟩
      have HJ2 : Hid (J (q + 1) w2) := hJ2
      obtain ⟨bq, ebq⟩ : ∃ b, b = p q := ⟨_, rfl⟩
      rw [← ebq]
      have HP : Hid (bq = p q) := ebq
      clear hJ2 ebq hent
      cases bq
      · have HF : Hid (bA = false) := HBA.out.trans (decide_eq_false (fun a => by have h := a q hlt; rw [← HP.out] at h; cases h))
        go_wp2
        go_ret
        exact ⟨by rw [HF.out]; rfl, q + 1, hlt, HJ2.out⟩
      · have HN : Hid (∀ i, i < q + 1 → p i = true) := fun i hi => by
          rcases Nat.lt_or_ge i q with h | h
          · exact HALL.out i h
          · rw [show i = q by omega]; exact HP.out.symm
        go_wp2
        go_roundw
        case measure => simp [intOf]; omega
        case rel => exact ⟨q + 1, by go_num, hlt, HJ2.out, HN⟩
    · have hki : ¬ (q : Int) < (n : Int) := by omega
      have HF : Hid (bA = true) := HBA.out.trans (decide_eq_true (fun i hi => HALL.out i (by omega)))
      have HJ : Hid (J q wr) := hJ
      clear hJ
      go_wp2
      go_ret
      exact ⟨by rw [HF.out]; rfl, q, hq, HJ.out⟩
set_option maxHeartbeats 16000000 in
set_option maxRecDepth 100000 in
theorem everyC (n : Nat) (v : Value) (f : Nat → Int × Int) (k : FuncId) (hk : Ent k) (bd fr : Array Value) (p : Nat → Bool) (J : Nat → World → Prop) (hn : n ≤ 1000000000000000) (w : World) (h0 : J 0 w)
    (hR : ∀ i w', J i w' → Rs w' v 2 n (fun i => pC (.int .i64 (f i).1, .int .i64 (f i).2))) (hA : ∀ i w' o, J i w' → J i (w'.alloc o))
    (HC : ∀ i, i < n → ∀ w', J i w' → Calls Tryz.prog k ((bd ++ #[.agg #[.int .i64 (f i).1, .int .i64 (f i).2]]) ++ fr) w' fun e w2 => e = .returned (.bool (p i)) ∧ J (i + 1) w2) :
    Calls Tryz.prog 135 #[v, .func (.func k) bd fr] w fun e w' => e = .returned (.bool (evB n p)) ∧ ∃ i, i ≤ n ∧ J i w' := by
  obtain ⟨oa, cn, rfl⟩ := (hR 0 w h0).shape
  have HR : Hid (∀ i w', J i w' → Rs w' (.slice oa n cn) 2 n (fun i => pC (.int .i64 (f i).1, .int .i64 (f i).2))) := hR
  have HA : Hid (∀ i w' o, J i w' → J i (w'.alloc o)) := hA
  have HCC : Hid (∀ i, i < n → ∀ w', J i w' → Calls Tryz.prog k ((bd ++ #[.agg #[.int .i64 (f i).1, .int .i64 (f i).2]]) ++ fr) w' fun e w2 => e = .returned (.bool (p i)) ∧ J (i + 1) w2) := HC
  have HEN : Hid (Ent k) := hk
  obtain ⟨bA, ebA⟩ : ∃ b, b = evB n p := ⟨_, rfl⟩
  rw [← ebA]
  have HBA : Hid (bA = evB n p) := ebA
  clear hR hA HC hk ebA
  go_enter Tryz.func135, Tryz.ntmps135
  go_wp2
  go_loopw [9] (fun iv wr => ∃ q : Nat, iv = .int .i64 (q : Int) ∧ q ≤ n ∧ J q wr ∧ Hid (∀ i, i < q → p i = true)) (fun iv _ => n - (intOf iv).toNat)
  case atStart => exact ⟨0, rfl, Nat.zero_le _, h0, fun i hi => by omega⟩
  case round =>
    obtain ⟨q, rfl, hq, hJ, HALL⟩ := hrel
    clear h0
    by_cases hlt : q < n
    · have hki : (q : Int) < (n : Int) := by omega
      have hk0 : (0 : Int) ≤ (q : Int) := by omega
      rcases HR.out q wr hJ with ⟨_, h0⟩ | ⟨ab, ao, c', hv, _, _, lab, hcell⟩
      · omega
      cases hv
      have HJ : Hid (J q wr) := hJ
      obtain ⟨x0, e0⟩ : ∃ x, x = (f q).1 := ⟨_, rfl⟩
      obtain ⟨x1, e1⟩ : ∃ x, x = (f q).2 := ⟨_, rfl⟩
      have a0 := hcell q hlt 0 (by decide); have a1 := hcell q hlt 1 (by decide)
      dsimp only at a0 a1
      rw [show pC (.int .i64 (f q).1, .int .i64 (f q).2) 0 = .int .i64 x0 from by rw [e0]; rfl] at a0
      rw [show pC (.int .i64 (f q).1, .int .i64 (f q).2) 1 = .int .i64 x1 from by rw [e1]; rfl] at a1
      rw [Nat.add_zero] at a0
      have HJ1 : Hid (J q (wr.alloc (.cells #[.int .i64 x0, .int .i64 x1] 85))) := HA.out q wr _ HJ.out
      have HXE : Hid (f q = (x0, x1)) := by show f q = _; rw [e0, e1]
      clear hcell lab hJ
      have hent : ∀ (w : World) (args : Array Value), (callFunc k args).run Tryz.prog w = .ok (.enter k args) w := HEN.out
      clear e0 e1
      go_wp2_with fail
      refine (show Calls Tryz.prog k ((bd ++ #[.agg #[.int .i64 x0, .int .i64 x1]]) ++ fr) (wr.alloc (.cells #[.int .i64 x0, .int .i64 x1] 85)) _ from by have h := HCC.out q hlt _ HJ1.out; rw [HXE.out] at h; exact h).mono ?_
      rintro e w2 ⟨rfl, hJ2⟩
      have HJ2 : Hid (J (q + 1) w2) := hJ2
      obtain ⟨bq, ebq⟩ : ∃ b, b = p q := ⟨_, rfl⟩
      rw [← ebq]
      have HP : Hid (bq = p q) := ebq
      clear hJ2 ebq hent
      cases bq
      · have HF : Hid (bA = false) := HBA.out.trans (decide_eq_false (fun a => by have h := a q hlt; rw [← HP.out] at h; cases h))
        go_wp2
        go_ret
        exact ⟨by rw [HF.out]; rfl, q + 1, hlt, HJ2.out⟩
      · have HN : Hid (∀ i, i < q + 1 → p i = true) := fun i hi => by
          rcases Nat.lt_or_ge i q with h | h
          · exact HALL.out i h
          · rw [show i = q by omega]; exact HP.out.symm
        go_wp2
        go_roundw
        case measure => simp [intOf]; omega
        case rel => exact ⟨q + 1, by go_num, hlt, HJ2.out, HN⟩
    · have hki : ¬ (q : Int) < (n : Int) := by omega
      have HF : Hid (bA = true) := HBA.out.trans (decide_eq_true (fun i hi => HALL.out i (by omega)))
      have HJ : Hid (J q wr) := hJ
      clear hJ
      go_wp2
      go_ret
      exact ⟨by rw [HF.out]; rfl, q, hq, HJ.out⟩
end Go.Proofs.YtgldibfpidmfhaaGreatDoor

