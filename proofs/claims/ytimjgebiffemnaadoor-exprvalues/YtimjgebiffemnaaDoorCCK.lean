/- expr.Check. -/
import Derived.Test.YtimjgebiffemnaaDoorCMP
namespace Go.Proofs.YtimjgebiffemnaaDoor
open Go.RowKit
open Go.Maps

def isQ (O : Int) : Bool := decide (2 ≤ O ∧ O ≤ 4)
/-- Does the node fit the counts, where it is a query? -/
def fitN (T : Int × Int × Int × Nat) (F A I : Int) : Bool := !isQ T.1 || fitB T.2.1 T.2.2.1 (colOf F A I T.1)
def chkB (n : Nat) (T : Nat → Int × Int × Int × Nat) (F A I : Int) : Bool := decide (n ≤ 64) && (ordB n T && decide (∀ i, i < n → fitN (T i) F A I = true))
def err (b : Bool) (e : Int) : Int := if b = true then 0 else e
theorem opT_q (T : Int × Int × Int × Nat) (h : isQ T.1 = true) : opT T = .iface 61 (.agg #[.int .i64 T.1, .int .i64 T.2.1, .int .i64 T.2.2.1]) := by
  have h1 := of_decide_eq_true h
  unfold opT opV
  rw [if_neg (by omega), if_pos (by omega)]
theorem opT_n (T : Int × Int × Int × Nat) (h : isQ T.1 = false) (ho : okO T.1 = true) : ∃ ty pv, opT T = .iface ty pv ∧ ∀ w, (Instr.typeAssert (.iface ty pv) 59 61 true).run Tryd.prog w = .ok (.tuple #[.agg #[.int .i64 0, .int .i64 0, .int .i64 0], .bool false]) w := by
  obtain ⟨O, A, B, V⟩ := T
  have h1 : ¬ (2 ≤ O ∧ O ≤ 4) := of_decide_eq_false h
  have h2 : 1 ≤ O ∧ O ≤ 8 := of_decide_eq_true ho
  have hc : O = 1 ∨ O = 5 ∨ O = 6 ∨ O = 7 ∨ O = 8 := by omega
  rcases hc with rfl | rfl | rfl | rfl | rfl
  all_goals exact ⟨_, _, rfl, fun w => as_other w (d := .struct (Tryd.prog.fieldsOf 61)) (by kernel_rfl) rfl (by decide) (by kernel_rfl)⟩
theorem as_q (O A B : Int) (w : World) : (Instr.typeAssert (.iface 61 (.agg #[.int .i64 O, .int .i64 A, .int .i64 B])) 59 61 true).run Tryd.prog w = .ok (.tuple #[.agg #[.int .i64 O, .int .i64 A, .int .i64 B], .bool true]) w := as_same w (d := .struct (Tryd.prog.fieldsOf 61)) (by kernel_rfl) rfl
set_option maxHeartbeats 4000000 in
theorem check_long (n cn : Nat) (oa : Option Addr) (F A I : Int) (hn : 64 < n) (w : World) :
    Calls Tryd.prog 10 #[.slice oa n cn, .int .i64 F, .int .i64 A, .int .i64 I] w fun e w' => e = .returned (.int .i64 110) ∧ w' = w := by
  have h1 : (64 : Int) < (n : Int) := by omega
  go_enter Tryd.func10, Tryd.ntmps10
  go_wp2
  go_ret
  exact ⟨rfl, rfl⟩
set_option maxHeartbeats 16000000 in
set_option maxRecDepth 100000 in
theorem check_in (n cn : Nat) (oa : Option Addr) (T : Nat → Int × Int × Int × Nat) (F A I : Int) (hF : rng F) (hA : rng A) (hI : rng I) (hn : n ≤ 64) (w : World) (hv : Rs w (.slice oa n cn) 7 n (fun i => nC (T i))) :
    Calls Tryd.prog 10 #[.slice oa n cn, .int .i64 F, .int .i64 A, .int .i64 I] w fun e w' => e = .returned (.int .i64 (err (chkB n T F A I) 110)) ∧ Below w.heap.size w w' := by
  have HORD : Hid (Calls _ _ _ _ _) := ordered_any n cn oa T (by omega) w hv
  have HFF : Hid (rng F) := hF
  have HFA : Hid (rng A) := hA
  have HFI : Hid (rng I) := hI
  have hmm := @run_makeMap Tryd.prog
  have h64 : ¬ (64 : Int) < (n : Int) := by omega
  obtain ⟨E, eE⟩ : ∃ E, E = err (chkB n T F A I) 110 := ⟨_, rfl⟩
  rw [← eE]
  have HEE : Hid (E = err (chkB n T F A I) 110) := eE
  have HN : Hid (n ≤ 64) := hn
  clear hv eE hF hA hI hn
  go_enter Tryd.func10, Tryd.ntmps10
  go_wp2_with fail
  refine Calls.mono HORD.out ?_
  rintro e w1 ⟨hh | hh, hb1⟩
  rotate_left
  · obtain ⟨ho, rfl⟩ := hh
    have HF : Hid (E = 110) := by
      show E = 110
      rw [HEE.out]; unfold chkB; rw [ho, Bool.false_and, Bool.and_false]; rfl
    clear HORD HEE ho
    go_wp2
    go_ret
    exact ⟨by rw [HF.out]; rfl, hb1⟩
  obtain ⟨ho, L, rfl, lL, bL⟩ := hh
  have HOR : Hid (ordB n T = true) := ho
  have ho' : ∀ i, i < n → okN (T i) i = true := of_decide_eq_true ho
  have HO : Hid (∀ i, i < n → okN (T i) i = true) := ho'
  have HOM : Hid ((w1.alloc (.map #[] 0)).ownsMap (H := Unit) Tryd.prog 3 (plainElem Tryd.prog 3) w1.heap.size 0 (.map [])) := World.ownsMap_made w1 Tryd.prog 3 _
  have HBM : Hid (Below w.heap.size w (w1.alloc (.map #[] 0))) := bAlloc hb1 _
  have HBL : Hid (BlkR w1 59 L 1 n (fun i _ => opT (T i))) := bL
  obtain ⟨B, eB⟩ : ∃ B, B = w1.heap.size := ⟨_, rfl⟩
  have HLB : Hid (w.heap.size ≤ B) := by rw [eB]; exact hb1.size
  have HBG : Hid (L < B) := by rw [eB]; exact bL.lt
  have HGM : Hid (∀ i, i < B → (w1.alloc (.map #[] 0)).heap[i]? = w1.heap[i]?) := fun i hi => by
    have : i < w1.heap.size := by rw [← eB]; exact hi
    show (w1.heap.push _)[i]? = _
    rw [Array.getElem?_push_lt this, Array.getElem?_eq_getElem this]
  rw [← eB] at HOM
  clear HORD ho ho' bL lL
  go_wp2_with (first
    | (rw [← eB]; refine wpList_insert_own _ rfl _ _ _ 57 rfl 3 3 lawI Tryd.underlying57 (plainElem Tryd.prog 3) B 0 (.map []) rfl HOM.out (by decide) _ _ _ rfl rfl (keyOf_int_mk Tryd.underlying3 (by decide)) (.lit (.int .i64 F)) [] (plainElem_int Tryd.underlying3 (WalkArith.wf_i64 HFF.out)) ?_)
    | go_in)
  intro w2 hown2 hg2
  rw [← eB] at hown2 hg2 ⊢
  have HEB : Hid (B = w1.heap.size) := eB
  clear eB
  have HO2 : Hid (w2.ownsMap (H := Unit) Tryd.prog 3 (plainElem Tryd.prog 3) B 1 (colD1 F)) := hown2
  have HG2 : Hid ((w1.alloc (.map #[] 0)).grownBy w2 (some B)) := hg2
  clear hown2 hg2 HOM
  go_wp2_with (first
    | (refine wpList_insert_own _ rfl _ _ _ 57 rfl 3 3 lawI Tryd.underlying57 (plainElem Tryd.prog 3) B 1 (colD1 F) rfl HO2.out (by decide) _ _ _ rfl rfl (keyOf_int_mk Tryd.underlying3 (by decide)) (.lit (.int .i64 A)) [] (plainElem_int Tryd.underlying3 (WalkArith.wf_i64 HFA.out)) ?_)
    | go_in)
  intro w3 hown3 hg3
  have HO3 : Hid (w3.ownsMap (H := Unit) Tryd.prog 3 (plainElem Tryd.prog 3) B 2 (colD2 F A)) := hown3
  have HG3 : Hid (w2.grownBy w3 (some B)) := hg3
  clear hown3 hg3 HO2
  go_wp2_with (first
    | (refine wpList_insert_own _ rfl _ _ _ 57 rfl 3 3 lawI Tryd.underlying57 (plainElem Tryd.prog 3) B 2 (colD2 F A) rfl HO3.out (by decide) _ _ _ rfl rfl (keyOf_int_mk Tryd.underlying3 (by decide)) (.lit (.int .i64 I)) [] (plainElem_int Tryd.underlying3 (WalkArith.wf_i64 HFI.out)) ?_)
    | go_in)
  intro w4 hown4 hg4
  have HMP : Hid (MapI w4 B F A I) := hown4
  have hb2 : Below w.heap.size w w2 := HBM.out.grown HG2.out HBM.out.size (fun j hj => by cases hj; exact HLB.out)
  have hb3 : Below w.heap.size w w3 := hb2.grown HG3.out hb2.size (fun j hj => by cases hj; exact HLB.out)
  have HB4 : Hid (Below w.heap.size w w4) := hb3.grown hg4 hb3.size (fun j hj => by cases hj; exact HLB.out)
  have HBL4 : Hid (BlkR w4 59 L 1 n (fun i _ => opT (T i))) := by
    obtain ⟨c, hc, hrest⟩ := HBL.out
    refine ⟨c, ?_, hrest⟩
    have hl : L < w1.heap.size := (Array.getElem?_eq_some_iff.1 hc).1
    have hne : some L ≠ some B := fun e => by cases e; exact Nat.lt_irrefl _ HBG.out
    have s1 : w1.heap.size < (w1.alloc (.map #[] 0)).heap.size := by simp
    have s2 := HG2.out.size; have s3 := HG3.out.size
    rw [hg4.block L (by omega) hne, HG3.out.block L (by omega) hne, HG2.out.block L (by omega) hne, HGM.out L HBG.out]
    exact hc
  clear hown4 hg4 HO3 hb2 hb3 HG2 HG3 HGM HBL HBM hb1 hmm HFF HFA HFI
  go_wp2
  go_loopw [33] (fun iv wr => ∃ k : Nat, iv = .int .i64 (k : Int) ∧ k ≤ n ∧ Below w4.heap.size w4 wr ∧ Hid (∀ i, i < k → fitN (T i) F A I = true)) (fun iv _ => n - (intOf iv).toNat)
  case atStart => exact ⟨0, rfl, Nat.zero_le _, Below.refl _ _, fun i hi => by omega⟩
  case round =>
    obtain ⟨k, rfl, hk, hbr, HALL⟩ := hrel
    by_cases hlt : k < n
    · have hki : (k : Int) < (n : Int) := by omega
      have hk0 : (0 : Int) ≤ (k : Int) := by omega
      have a0 := (HBL4.out.belowAll hbr).cell k hlt 0 (by decide)
      rw [Nat.mul_one, Nat.add_zero] at a0
      have HBR : Hid (Below w.heap.size w wr) := HB4.out.trans (hbr.mono HB4.out.size)
      obtain ⟨bq, ebq⟩ : ∃ b, b = isQ (T k).1 := ⟨_, rfl⟩
      cases bq
      · obtain ⟨ty, pv, eif, hta⟩ := opT_n (T k) ebq.symm (by have h := HO.out k hlt; unfold okN at h; rw [Bool.and_eq_true] at h; exact h.1)
        rw [eif] at a0
        have HN2 : Hid (∀ i, i < k + 1 → fitN (T i) F A I = true) := fun i hi => by
          rcases Nat.lt_or_ge i k with h | h
          · exact HALL.out i h
          · rw [show i = k by omega]; unfold fitN; rw [← ebq]; rfl
        have HBN : Hid (Below w4.heap.size w4 (wr.alloc (.cells #[.int .i64 0, .int .i64 0, .int .i64 0] 61))) := bAlloc hbr _
        clear ebq eif hbr
        go_wp2
        go_roundw
        case measure => simp [intOf]; omega
        case rel => exact ⟨k + 1, by go_num, hlt, HBN.out, HN2⟩
      · obtain ⟨O, X, Y, V, hE⟩ : ∃ O X Y V, T k = (O, X, Y, V) := ⟨_, _, _, _, rfl⟩
        rw [opT_q (T k) ebq.symm, hE] at a0
        dsimp only at a0
        have hO : 2 ≤ O ∧ O ≤ 4 := by rw [hE] at ebq; exact of_decide_eq_true ebq.symm
        have hta := as_q O X Y
        have hlk : ∀ o, (Instr.lookup 57 (.map (some B)) (.int .i64 O) false).run Tryd.prog (wr.alloc o) = .ok (.int .i64 (colOf F A I O)) (wr.alloc o) := fun o => ((HMP.out.below hbr).below (bAlloc (Below.refl _ _) o)).look O ⟨by omega, by omega⟩
        obtain ⟨c, ec⟩ : ∃ c, c = colOf F A I O := ⟨_, rfl⟩
        rw [← ec] at hlk
        have HKN : Hid (fitN (T k) F A I = fitB X Y c) := by
          show fitN (T k) F A I = fitB X Y c
          unfold fitN; rw [← ebq, hE, ec]; rfl
        have HBN : Hid (Below w4.heap.size w4 (wr.alloc (.cells #[.int .i64 O, .int .i64 X, .int .i64 Y] 61))) := bAlloc hbr _
        have HBW : Hid (Below w.heap.size w (wr.alloc (.cells #[.int .i64 O, .int .i64 X, .int .i64 Y] 61))) := bAlloc HBR.out _
        clear ebq hE hbr ec hO
        go_wp2_with fail
        refine (fits_any O X Y c _).mono ?_
        rintro e w5 ⟨rfl, hb5⟩
        have HB5 : Hid (Below w4.heap.size w4 w5) := bStep HBN.out hb5
        have HW5 : Hid (Below w.heap.size w w5) := bStep HBW.out hb5
        obtain ⟨bf, ebf⟩ : ∃ b, b = fitB X Y c := ⟨_, rfl⟩
        rw [← ebf] at HKN ⊢
        clear ebf hb5 hlk HBN HBW a0 hta
        cases bf
        · have HF : Hid (E = 110) := by
            show E = 110
            rw [HEE.out]; unfold chkB
            rw [decide_eq_false (p := ∀ i, i < n → fitN (T i) F A I = true) (fun a => by have h := a k hlt; rw [HKN.out] at h; cases h), Bool.and_false, Bool.and_false]; rfl
          go_wp2
          go_ret
          exact ⟨by rw [HF.out]; rfl, HW5.out⟩
        · have HN2 : Hid (∀ i, i < k + 1 → fitN (T i) F A I = true) := fun i hi => by
            rcases Nat.lt_or_ge i k with h | h
            · exact HALL.out i h
            · rw [show i = k by omega]; exact HKN.out
          go_wp2
          go_roundw
          case measure => simp [intOf]; omega
          case rel => exact ⟨k + 1, by go_num, hlt, HB5.out, HN2⟩
    · have hki : ¬ (k : Int) < (n : Int) := by omega
      have HBR : Hid (Below w.heap.size w wr) := HB4.out.trans (hbr.mono HB4.out.size)
      have HF : Hid (E = 0) := by
        show E = 0
        rw [HEE.out]; unfold chkB
        rw [decide_eq_true HN.out, HOR.out, decide_eq_true (p := ∀ i, i < n → fitN (T i) F A I = true) (fun i hi => HALL.out i (by omega))]; rfl
      clear hbr HALL
      go_wp2
      go_ret
      exact ⟨by rw [HF.out]; rfl, HBR.out⟩

end Go.Proofs.YtimjgebiffemnaaDoor
