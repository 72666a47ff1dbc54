/- circuit.Queries. -/
import Derived.Test.YtbhljgenicahoaaCQ3
import Derived.Test.YtbhljgenicahoaaCLC
namespace Go.Proofs.Ytbhljgenicahoaa
open Go.RowKit

def eqQ (E : Nat → Int × Int) (j : Nat) : Int × Int × Int := ((E j).1, (E j).2, 0)
/-- The queries, once the first j columns that may be copied are looked at: how many, and which. -/
def cq (T : Nat → Int × Int × Int × Nat) (n : Nat) (E : Nat → Int × Int) : Nat → Nat × (Nat → Int × Int × Int)
  | 0 => (qN T n, qF T n)
  | j + 1 => if memB (cq T n E j).1 (cq T n E j).2 (eqQ E j) = true then cq T n E j else ((cq T n E j).1 + 1, fun i => if i = (cq T n E j).1 then eqQ E j else (cq T n E j).2 i)
theorem cq_le (T : Nat → Int × Int × Int × Nat) (n : Nat) (E : Nat → Int × Int) : ∀ j, (cq T n E j).1 ≤ n + j
  | 0 => qN_le T n
  | j + 1 => by
    have ih := cq_le T n E j
    show (if memB (cq T n E j).1 (cq T n E j).2 (eqQ E j) = true then cq T n E j else ((cq T n E j).1 + 1, fun i => if i = (cq T n E j).1 then eqQ E j else (cq T n E j).2 i)).1 ≤ n + (j + 1)
    split
    · omega
    · show (cq T n E j).1 + 1 ≤ n + (j + 1); omega
def QuP (e : Ending) (w w' : World) (ok : Bool) (T : Nat → Int × Int × Int × Nat) (n : Nat) (E : Nat → Int × Int) (m : Nat) : Prop :=
  ∃ v, e = .returned v ∧ (if ok = true then w'.ownsRow w.heap.size 66 3 v (cq T n E m).1 (rwl 3 (fun i => qC ((cq T n E m).2 i)) (cq T n E m).1) else v = .slice none 0 0)
theorem colOf_le {F A I k : Int} (h : colB F A I = true) : colOf F A I k ≤ 8 := by
  unfold colB at h
  rw [Bool.and_eq_true, Bool.and_eq_true, Bool.and_eq_true] at h
  have h1 := of_decide_eq_true h.2.1; have h2 := of_decide_eq_true h.2.2.1; have h3 := of_decide_eq_true h.2.2.2
  unfold colOf
  split
  · exact h1.2
  · split
    · exact h2.2
    · split
      · exact h3.2
      · decide
theorem nodes_rng {n : Nat} {T : Nat → Int × Int × Int × Nat} {F A I : Int} (hc : colB F A I = true) (hf : ∀ i, i < n → fitN (T i) F A I = true) : ∀ i, i < n → isQ (T i).1 = true → rng (T i).2.1 ∧ rng (T i).2.2.1 := by
  intro i hi hq
  have h := hf i hi
  unfold fitN at h
  rw [hq] at h
  have h1 : fitB (T i).2.1 (T i).2.2.1 (colOf F A I (T i).1) = true := h
  have h2 := of_decide_eq_true h1
  have h3 := colOf_le (k := (T i).1) hc
  unfold rng
  omega
set_option maxHeartbeats 16000000 in
set_option maxRecDepth 100000 in
theorem cQueries_any (F A I : Int) (oN oG oL oE : Option Addr) (n cN g cG l cL m cE : Nat) (f : Nat → Value × Value) (ni nt : Nat → Nat) (In Tb : Nat → Nat → Int) (T : Nat → Int × Int × Int × Nat) (G : Nat → Int) (E : Nat → Int × Int) (hgn : g ≤ 100000000000000) (hr : Rng F A I m E) (w : World)
    (hc : Cir w (.slice oN n cN) (.slice oG g cG) (.slice oL l cL) (.slice oE m cE) n T g G l f ni nt In Tb m E) :
    Calls Try.prog 16 #[.agg #[.int .i64 F, .int .i64 A, .int .i64 I, .slice oN n cN, .slice oG g cG, .slice oL l cL, .slice oE m cE]] w fun e w' => QuP e w w' (chkB n T F A I && rgtB n T F A I g G l ni nt In Tb m E) T n E m ∧ Below w.heap.size w w' := by
  obtain ⟨w1, ew1⟩ : ∃ x : World, x = w.alloc (.cells #[.int .i64 F, .int .i64 A, .int .i64 I, .slice oN n cN, .slice oG g cG, .slice oL l cL, .slice oE m cE] 27) := ⟨_, rfl⟩
  have hb1 : Below w.heap.size w w1 := by rw [ew1]; exact bAlloc (Below.refl _ _) _
  obtain ⟨b1, eb1⟩ : ∃ x, x = w.heap.size := ⟨_, rfl⟩
  have f1 : w1.heap[b1]? = some (.cells #[.int .i64 F, .int .i64 A, .int .i64 I, .slice oN n cN, .slice oG g cG, .slice oL l cL, .slice oE m cE] 27) := by rw [ew1, eb1]; show (w.heap.push _)[w.heap.size]? = _; simp
  have HLA : Hid (Calls _ _ _ _ _) := lookAt_any F A I oN oG oL oE n cN g cG l cL m cE f ni nt In Tb T G E hgn hr w1 (hc.below hb1)
  have HCR : Hid (∀ w', Below w.heap.size w w' → Cir w' (.slice oN n cN) (.slice oG g cG) (.slice oL l cL) (.slice oE m cE) n T g G l f ni nt In Tb m E) := fun w' h => hc.below h
  obtain ⟨cb, ecb⟩ : ∃ b, b = chkB n T F A I := ⟨_, rfl⟩
  obtain ⟨rb, erb⟩ : ∃ b, b = rgtB n T F A I g G l ni nt In Tb m E := ⟨_, rfl⟩
  rw [← ecb, ← erb] at HLA
  rw [← ecb, ← erb]
  have HCB : Hid (cb = chkB n T F A I) := ecb
  have HRB : Hid (rb = rgtB n T F A I g G l ni nt In Tb m E) := erb
  have HB1 : Hid (Below w.heap.size w w1) := hb1
  obtain ⟨d0, d1, d2, d3, d4, d5, d6⟩ := cells7 f1
  clear hc hr hgn f1 hb1 ecb erb
  obtain ⟨iq, hiq, hq0, hq1, hq2⟩ := qryInf
  have HIQ := (show Hid _ from hiq); have HZQ := (show Hid _ from And.intro hq0 (And.intro hq1 hq2)); clear hiq hq0 hq1 hq2
  go_enter Try.func16, Try.ntmps16
  go_upto_region 1 with fail
  rw [← ew1, ← eb1]
  clear ew1 eb1
  go_wp2_with fail
  refine Calls.mono HLA.out ?_
  rintro e w3 ⟨hl, hb3⟩
  unfold LookP at hl
  obtain ⟨Gd, rfl, _⟩ := hl
  clear d0 d1 d2 d3 d4 d5 d6 HLA
  cases cb
  · have HBF : Hid (Below w.heap.size w (w3.alloc (.cells #[.int .i64 0, .int .i64 0, .int .i64 0, .slice none 0 0, .slice none 0 0, .slice none 0 0, .slice none 0 0, .slice none 0 0] 55))) := bAlloc (bStep HB1.out hb3) _
    rw [show lookE false rb (.agg #[.int .i64 F, .int .i64 A, .int .i64 I, .slice oN n cN, .slice oG g cG, .slice oL l cL, .slice oE m cE, .slice (some ⟨Gd, 0, none⟩) n n]) = .returned (.tuple #[.agg #[.int .i64 0, .int .i64 0, .int .i64 0, .slice none 0 0, .slice none 0 0, .slice none 0 0, .slice none 0 0, .slice none 0 0], .int .i64 110]) from rfl]
    clear hb3
    go_wp2
    go_ret
    exact ⟨by unfold QuP; exact ⟨_, rfl, rfl⟩, HBF.out⟩
  cases rb
  · have HBF : Hid (Below w.heap.size w (w3.alloc (.cells #[.int .i64 0, .int .i64 0, .int .i64 0, .slice none 0 0, .slice none 0 0, .slice none 0 0, .slice none 0 0, .slice none 0 0] 55))) := bAlloc (bStep HB1.out hb3) _
    rw [show lookE true false (.agg #[.int .i64 F, .int .i64 A, .int .i64 I, .slice oN n cN, .slice oG g cG, .slice oL l cL, .slice oE m cE, .slice (some ⟨Gd, 0, none⟩) n n]) = .returned (.tuple #[.agg #[.int .i64 0, .int .i64 0, .int .i64 0, .slice none 0 0, .slice none 0 0, .slice none 0 0, .slice none 0 0, .slice none 0 0], .int .i64 120]) from rfl]
    clear hb3
    go_wp2
    go_ret
    exact ⟨by unfold QuP; exact ⟨_, rfl, rfl⟩, HBF.out⟩
  rw [show lookE true true (.agg #[.int .i64 F, .int .i64 A, .int .i64 I, .slice oN n cN, .slice oG g cG, .slice oL l cL, .slice oE m cE, .slice (some ⟨Gd, 0, none⟩) n n]) = .returned (.tuple #[.agg #[.int .i64 F, .int .i64 A, .int .i64 I, .slice oN n cN, .slice oG g cG, .slice oL l cL, .slice oE m cE, .slice (some ⟨Gd, 0, none⟩) n n], .int .i64 0]) from rfl]
  obtain ⟨w4, ew4⟩ : ∃ x : World, x = w3.alloc (.cells #[.int .i64 F, .int .i64 A, .int .i64 I, .slice oN n cN, .slice oG g cG, .slice oL l cL, .slice oE m cE, .slice (some ⟨Gd, 0, none⟩) n n] 55) := ⟨_, rfl⟩
  have hb4 : Below w3.heap.size w3 w4 := by rw [ew4]; exact bAlloc (Below.refl _ _) _
  have HB4 : Hid (Below w.heap.size w w4) := bStep (bStep HB1.out hb3) hb4
  have ha4 : w3.alloc (.cells #[.int .i64 F, .int .i64 A, .int .i64 I, .slice oN n cN, .slice oG g cG, .slice oL l cL, .slice oE m cE, .slice (some ⟨Gd, 0, none⟩) n n] 55) = w4 := ew4.symm
  obtain ⟨b4, eb4⟩ : ∃ x, x = w3.heap.size := ⟨_, rfl⟩
  have f4 : w4.heap[b4]? = some (.cells #[.int .i64 F, .int .i64 A, .int .i64 I, .slice oN n cN, .slice oG g cG, .slice oL l cL, .slice oE m cE, .slice (some ⟨Gd, 0, none⟩) n n] 55) := by rw [ew4, eb4]; show (w3.heap.push _)[w3.heap.size]? = _; simp
  have HF4 : Hid (w4.heap[b4]? = some (.cells #[.int .i64 F, .int .i64 A, .int .i64 I, .slice oN n cN, .slice oG g cG, .slice oL l cL, .slice oE m cE, .slice (some ⟨Gd, 0, none⟩) n n] 55)) := f4
  have hb4' : w3.heap.size = b4 := eb4.symm
  obtain ⟨h64, hord, hfit⟩ := chkB_true HCB.out.symm
  obtain ⟨hcol, _, _, heq, _⟩ := rgtB_true HRB.out.symm
  have hm8' : m ≤ 8 := by
    unfold eqB at heq
    rw [Bool.and_eq_true] at heq
    exact of_decide_eq_true heq.1
  have HM8 : Hid (m ≤ 8) := hm8'
  clear hm8'
  have HN64 : Hid (n ≤ 64) := h64
  have HQC : Hid (Calls _ _ _ _ _) := queries_any n cN oN T (by omega) (nodes_rng hcol hfit) w4 (HCR.out w4 HB4.out).1
  obtain ⟨d0, d1, d2, d3, d4, d5, d6, d7⟩ := cells8 f4
  clear hb3 hb4 ew4 eb4 f4 h64 hord hfit hcol heq
  go_wp2_with fail
  refine Calls.mono HQC.out ?_
  rintro e w5 ⟨⟨v5, rfl, ho5⟩, hb5⟩
  have HO5 : Hid (w5.ownsRow w4.heap.size 66 3 v5 (cq T n E 0).1 (rwl 3 (fun i => qC ((cq T n E 0).2 i)) (cq T n E 0).1)) := ho5
  have HB5 : Hid (Below w4.heap.size w4 w5) := hb5
  clear d0 d1 d2 d3 d4 d5 d6 d7
  obtain ⟨d0, d1, d2, d3, d4, d5, d6, d7⟩ := cells8 ((hb5.block b4 (Array.getElem?_eq_some_iff.1 HF4.out).1).trans HF4.out)
  clear ho5 hb5 HQC ha4 hb4'
  have hm8 := HM8.out
  go_wp2
  go_loopw [24, 5] (fun iv lv wr => ∃ j : Nat, iv = .int .i64 (j : Int) ∧ j ≤ m ∧ Below w4.heap.size w4 wr ∧ Hid (wr.ownsRow w4.heap.size 66 3 lv (cq T n E j).1 (rwl 3 (fun i => qC ((cq T n E j).2 i)) (cq T n E j).1))) (fun iv _ _ => m - (intOf iv).toNat)
  case atStart => exact ⟨0, rfl, Nat.zero_le _, HB5.out, HO5⟩
  case round =>
    obtain ⟨j, rfl, hj, hbr, HO⟩ := hrel
    obtain ⟨ol, cl, hsh, _⟩ := own_shape HO.out
    subst hsh
    clear HO5 HB5 d0 d1 d2 d3 d4 d5 d6 d7
    by_cases hlt : j < m
    · have hji : (j : Int) < (m : Int) := by omega
      have hj0 : (0 : Int) ≤ (j : Int) := by omega
      have hBW : Below w.heap.size w wr := HB4.out.trans (hbr.mono HB4.out.size)
      rcases (HCR.out wr hBW).2.2.2 with ⟨_, h0⟩ | ⟨ab, ao, c', hv, _, _, _, hcell⟩
      · omega
      cases hv
      obtain ⟨X, eX⟩ : ∃ x, x = (E j).1 := ⟨_, rfl⟩
      obtain ⟨Y, eY⟩ : ∃ x, x = (E j).2 := ⟨_, rfl⟩
      have r0 := hcell j hlt 0 (by decide); have r1 := hcell j hlt 1 (by decide)
      dsimp only at r0 r1
      rw [show pC (.int .i64 (E j).1, .int .i64 (E j).2) 0 = .int .i64 X from by rw [eX]; rfl, Nat.add_zero] at r0
      rw [show pC (.int .i64 (E j).1, .int .i64 (E j).2) 1 = .int .i64 Y from by rw [eY]; rfl] at r1
      have HEQ : Hid (eqQ E j = (X, Y, 0)) := by show eqQ E j = _; rw [eX, eY]; rfl
      obtain ⟨a1, ea1⟩ : ∃ x : World, x = (wr.alloc (.cells #[.int .i64 X, .int .i64 Y] 64)).alloc (.cells #[.int .i64 X, .int .i64 Y, .int .i64 0] 66) := ⟨_, rfl⟩
      have hA1 : Below wr.heap.size wr a1 := by rw [ea1]; exact bAlloc (bAlloc (Below.refl _ _) _) _
      obtain ⟨N8, eN8⟩ : ∃ x, x = wr.heap.size + 1 := ⟨_, rfl⟩
      have g8 : a1.heap[N8]? = some (.cells #[.int .i64 X, .int .i64 Y, .int .i64 0] 66) := by rw [ea1]; exact new_at _ _ _ (by rw [eN8]; simp)
      have HA1 : Hid (Below wr.heap.size wr a1) := hA1
      have HG8 : Hid (a1.heap[N8]? = some (.cells #[.int .i64 X, .int .i64 Y, .int .i64 0] 66)) := g8
      have HBR : Hid (Below w4.heap.size w4 wr) := hbr
      have HCO : Hid (Calls _ _ _ _ _) := contains_any (cq T n E j).1 cl ol (cq T n E j).2 (X, Y, 0) (by have := cq_le T n E j; have := HN64.out; omega) a1 (own_Rs (own_below HO.out hA1))
      obtain ⟨mb, emb⟩ : ∃ b, b = memB (cq T n E j).1 (cq T n E j).2 (X, Y, 0) := ⟨_, rfl⟩
      rw [← emb] at HCO
      have HMB : Hid (mb = memB (cq T n E j).1 (cq T n E j).2 (eqQ E j)) := by show mb = _; rw [HEQ.out]; exact emb
      obtain ⟨M, eM⟩ : ∃ M, M = (cq T n E j).1 := ⟨_, rfl⟩
      have hM : M ≤ 1000 := by rw [eM]; have := cq_le T n E j; have := HN64.out; omega
      have HEM : Hid (M = (cq T n E j).1) := eM
      rw [← eM] at HCO HO ⊢
      have z0 : a1.cell? ⟨N8, 0, none⟩ = some (.int .i64 X) := cell_of_block g8 0
      have z1 : a1.cell? ⟨N8, 1, none⟩ = some (.int .i64 Y) := cell_of_block g8 1
      have z2 : a1.cell? ⟨N8, 2, none⟩ = some (.int .i64 0) := cell_of_block g8 2
      clear hcell hA1 g8 hbr hBW emb eM eX eY
      go_upto_region 9 with fail
      rw [← ea1, ← eN8]
      clear r0 r1 ea1 eN8
      go_wp2_with fail
      refine Calls.mono HCO.out ?_
      rintro e a2 ⟨rfl, hA2⟩
      have HA2 : Hid (Below wr.heap.size wr a2) := bStep HA1.out hA2
      have g82 := (hA2.block N8 (Array.getElem?_eq_some_iff.1 HG8.out).1).trans HG8.out
      clear z0 z1 z2 HCO hA2
      have z0 : a2.cell? ⟨N8, 0, none⟩ = some (.int .i64 X) := cell_of_block g82 0
      have z1 : a2.cell? ⟨N8, 1, none⟩ = some (.int .i64 Y) := cell_of_block g82 1
      have z2 : a2.cell? ⟨N8, 2, none⟩ = some (.int .i64 0) := cell_of_block g82 2
      clear g82
      cases mb
      · obtain ⟨a3, ea3⟩ : ∃ x : World, x = a2.alloc (.cells #[.int .i64 X, .int .i64 Y, .int .i64 0] 66) := ⟨_, rfl⟩
        have hA3 : Below a2.heap.size a2 a3 := by rw [ea3]; exact bAlloc (Below.refl _ _) _
        have hR3 : Rs a3 (.slice (some ⟨a2.heap.size, 0, none⟩) 1 1) 3 1 (fun _ => qC (X, Y, 0)) := by rw [ea3]; exact one_Rs3 a2 66 (X, Y, 0)
        have ha3 : a2.alloc (.cells #[.int .i64 X, .int .i64 Y, .int .i64 0] 66) = a3 := ea3.symm
        have HA3 : Hid (Below wr.heap.size wr a3) := bStep HA2.out hA3
        have HO3 : Hid (a3.ownsRow w4.heap.size 66 3 (.slice ol M cl) M (rwl 3 (fun i => qC ((cq T n E j).2 i)) M)) := own_below HO.out HA3.out
        have HSZ : Hid (w4.heap.size ≤ a3.heap.size) := Nat.le_trans HBR.out.size HA3.out.size
        clear ea3 hA3
        go_wp2_with (first
          | (at_builtin; refine wpList_appR _ rfl _ _ 36 rfl w4.heap.size 66 iq (.agg #[.int .i64 0, .int .i64 0, .int .i64 0]) 3 24 Try.underlying36 HIQ.out HZQ.out.1 HZQ.out.2.1 HZQ.out.2.2 rfl (by decide) _ M _ rfl HO3.out 1 _ _ rfl hR3 (fun i _ j _ => qC_one _ _) ?c1 ?c2 HSZ.out ?_)
          | go_in)
        case c1 => unfold maxLen; omega
        case c2 => omega
        intro v7 a7 hown7 hg7 hsep7
        have hcq : cq T n E (j + 1) = (M + 1, fun i => if i = M then eqQ E j else (cq T n E j).2 i) := by
          rw [HEM.out]; exact if_neg (by rw [← HMB.out]; decide)
        have HO7 : Hid (a7.ownsRow w4.heap.size 66 3 v7 (cq T n E (j + 1)).1 (rwl 3 (fun i => qC ((cq T n E (j + 1)).2 i)) (cq T n E (j + 1)).1)) := own_same hown7 (by rw [hcq]) (fun i hi q _ => by
          rw [hcq, HEQ.out]
          dsimp only
          by_cases h1 : i < M
          · rw [if_neg (by omega), if_pos h1]
          · rw [if_pos (by omega), if_neg h1])
        have HB7 : Hid (Below w4.heap.size w4 a7) := (bStep HBR.out HA3.out).grown hg7 HSZ.out (fun q hq => own_ge HO3.out hq)
        clear hown7 hg7 hsep7 hR3 ha3 z0 z1 z2 hcq
        go_wp2
        go_roundw
        case measure => simp [intOf]; omega
        case rel => exact ⟨j + 1, by go_num, hlt, HB7.out, HO7⟩
      · have hcq : cq T n E (j + 1) = cq T n E j := if_pos HMB.out.symm
        have HO7 : Hid (a2.ownsRow w4.heap.size 66 3 (.slice ol M cl) (cq T n E (j + 1)).1 (rwl 3 (fun i => qC ((cq T n E (j + 1)).2 i)) (cq T n E (j + 1)).1)) := own_same (own_below HO.out HA2.out) (by rw [hcq, HEM.out]) (fun i _ q _ => by rw [hcq])
        have HB7 : Hid (Below w4.heap.size w4 a2) := bStep HBR.out HA2.out
        clear hcq
        go_wp2
        go_roundw
        case measure => simp [intOf]; omega
        case rel => exact ⟨j + 1, by go_num, hlt, HB7.out, HO7⟩
    · have hji : ¬ (j : Int) < (m : Int) := by omega
      have ej : m = j := by omega
      subst ej
      have HBF : Hid (Below w.heap.size w wr) := HB4.out.trans (hbr.mono HB4.out.size)
      have HOF := own_base (base := w.heap.size) HO.out HB4.out.size
      have HOG : Hid (wr.ownsRow w.heap.size 66 3 (.slice ol (cq T n E m).1 cl) (cq T n E m).1 (rwl 3 (fun i => qC ((cq T n E m).2 i)) (cq T n E m).1)) := HOF
      clear hbr HO HOF
      go_wp2
      go_ret
      exact ⟨by unfold QuP; exact ⟨_, rfl, HOG.out⟩, HBF.out⟩

end Go.Proofs.Ytbhljgenicahoaa
