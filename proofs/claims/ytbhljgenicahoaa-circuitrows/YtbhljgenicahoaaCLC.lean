/- circuit.Check, Degree, Rows. -/
import Derived.Test.YtbhljgenicahoaaCLB
namespace Go.Proofs.Ytbhljgenicahoaa
open Go.RowKit

def cirE (cb rb : Bool) : Int := if cb = false then 110 else if rb = false then 120 else 0
set_option maxHeartbeats 8000000 in
set_option maxRecDepth 100000 in
theorem cCheck_any (F A I : Int) (oN oG oL oE : Option Addr) (n cN g cG l cL m cE : Nat) (f : Nat → Value × Value) (ni nt : Nat → Nat) (In Tb : Nat → Nat → Int) (T : Nat → Int × Int × Int × Nat) (G : Nat → Int) (E : Nat → Int × Int) (hgn : g ≤ 100000000000000) (hr : Rng F A I m E) (w : World)
    (hc : Cir w (.slice oN n cN) (.slice oG g cG) (.slice oL l cL) (.slice oE m cE) n T g G l f ni nt In Tb m E) :
    Calls Try.prog 13 #[.agg #[.int .i64 F, .int .i64 A, .int .i64 I, .slice oN n cN, .slice oG g cG, .slice oL l cL, .slice oE m cE]] w fun e w' => e = .returned (.int .i64 (cirE (chkB n T F A I) (rgtB n T F A I g G l ni nt In Tb m E))) ∧ Below w.heap.size w w' := by
  obtain ⟨w1, ew1⟩ : ∃ x : World, x = w.alloc (.cells #[.int .i64 F, .int .i64 A, .int .i64 I, .slice oN n cN, .slice oG g cG, .slice oL l cL, .slice oE m cE] 27) := ⟨_, rfl⟩
  have hb1 : Below w.heap.size w w1 := by rw [ew1]; exact bAlloc (Below.refl _ _) _
  obtain ⟨b1, eb1⟩ : ∃ x, x = w.heap.size := ⟨_, rfl⟩
  have f1 : w1.heap[b1]? = some (.cells #[.int .i64 F, .int .i64 A, .int .i64 I, .slice oN n cN, .slice oG g cG, .slice oL l cL, .slice oE m cE] 27) := by rw [ew1, eb1]; show (w.heap.push _)[w.heap.size]? = _; simp
  have HLA : Hid (Calls _ _ _ _ _) := lookAt_any F A I oN oG oL oE n cN g cG l cL m cE f ni nt In Tb T G E hgn hr w1 (hc.below hb1)
  have HCR : Hid (∀ w', Below w.heap.size w w' → Cir w' (.slice oN n cN) (.slice oG g cG) (.slice oL l cL) (.slice oE m cE) n T g G l f ni nt In Tb m E) := fun w' h => hc.below h
  obtain ⟨cb, ecb⟩ : ∃ b, b = chkB n T F A I := ⟨_, rfl⟩
  obtain ⟨rb, erb⟩ : ∃ b, b = rgtB n T F A I g G l ni nt In Tb m E := ⟨_, rfl⟩
  rw [← ecb, ← erb] at HLA
  rw [← ecb, ← erb]
  have HCB : Hid (cb = chkB n T F A I) := ecb
  have HRB : Hid (rb = rgtB n T F A I g G l ni nt In Tb m E) := erb
  have HB1 : Hid (Below w.heap.size w w1) := hb1
  obtain ⟨d0, d1, d2, d3, d4, d5, d6⟩ := cells7 f1
  clear hc hr hgn f1 hb1 ecb erb
  go_enter Try.func13, Try.ntmps13
  go_upto_region 1 with fail
  rw [← ew1, ← eb1]
  clear ew1 eb1
  go_wp2_with fail
  refine Calls.mono HLA.out ?_
  rintro e w3 ⟨hl, hb3⟩
  unfold LookP at hl
  obtain ⟨Gd, rfl, _⟩ := hl
  clear d0 d1 d2 d3 d4 d5 d6 HLA
  cases cb
  · have HBF : Hid (Below w.heap.size w (w3.alloc (.cells #[.int .i64 0, .int .i64 0, .int .i64 0, .slice none 0 0, .slice none 0 0, .slice none 0 0, .slice none 0 0, .slice none 0 0] 55))) := bAlloc (bStep HB1.out hb3) _
    rw [show lookE false rb (.agg #[.int .i64 F, .int .i64 A, .int .i64 I, .slice oN n cN, .slice oG g cG, .slice oL l cL, .slice oE m cE, .slice (some ⟨Gd, 0, none⟩) n n]) = .returned (.tuple #[.agg #[.int .i64 0, .int .i64 0, .int .i64 0, .slice none 0 0, .slice none 0 0, .slice none 0 0, .slice none 0 0, .slice none 0 0], .int .i64 110]) from rfl]
    clear hb3
    go_wp2
    go_ret
    exact ⟨rfl, HBF.out⟩
  · cases rb
    · have HBF : Hid (Below w.heap.size w (w3.alloc (.cells #[.int .i64 0, .int .i64 0, .int .i64 0, .slice none 0 0, .slice none 0 0, .slice none 0 0, .slice none 0 0, .slice none 0 0] 55))) := bAlloc (bStep HB1.out hb3) _
      rw [show lookE true false (.agg #[.int .i64 F, .int .i64 A, .int .i64 I, .slice oN n cN, .slice oG g cG, .slice oL l cL, .slice oE m cE, .slice (some ⟨Gd, 0, none⟩) n n]) = .returned (.tuple #[.agg #[.int .i64 0, .int .i64 0, .int .i64 0, .slice none 0 0, .slice none 0 0, .slice none 0 0, .slice none 0 0, .slice none 0 0], .int .i64 120]) from rfl]
      clear hb3
      go_wp2
      go_ret
      exact ⟨rfl, HBF.out⟩
    · have HBF : Hid (Below w.heap.size w (w3.alloc (.cells #[.int .i64 F, .int .i64 A, .int .i64 I, .slice oN n cN, .slice oG g cG, .slice oL l cL, .slice oE m cE, .slice (some ⟨Gd, 0, none⟩) n n] 55))) := bAlloc (bStep HB1.out hb3) _
      rw [show lookE true true (.agg #[.int .i64 F, .int .i64 A, .int .i64 I, .slice oN n cN, .slice oG g cG, .slice oL l cL, .slice oE m cE, .slice (some ⟨Gd, 0, none⟩) n n]) = .returned (.tuple #[.agg #[.int .i64 F, .int .i64 A, .int .i64 I, .slice oN n cN, .slice oG g cG, .slice oL l cL, .slice oE m cE, .slice (some ⟨Gd, 0, none⟩) n n], .int .i64 0]) from rfl]
      clear hb3
      go_wp2
      go_ret
      exact ⟨rfl, HBF.out⟩
theorem rgtB_true {n : Nat} {T : Nat → Int × Int × Int × Nat} {F A I : Int} {g : Nat} {G : Nat → Int} {l : Nat} {ni nt : Nat → Nat} {In Tb : Nat → Nat → Int} {m : Nat} {E : Nat → Int × Int} (h : rgtB n T F A I g G l ni nt In Tb m E = true) :
    colB F A I = true ∧ gatB n g G = true ∧ lksB n T l ni nt In Tb = true ∧ eqB F A I m E = true ∧ dgL (dgs T n) G g l m ni nt In Tb l ≤ 8 := by
  unfold rgtB at h
  rw [Bool.and_eq_true, Bool.and_eq_true, Bool.and_eq_true, Bool.and_eq_true] at h
  exact ⟨h.1, h.2.1, h.2.2.1, h.2.2.2.1, of_decide_eq_true h.2.2.2.2⟩
theorem degree_right (F A I : Int) (oN oG oL oE : Option Addr) (n cN g cG l cL m cE : Nat) (Gd : Nat) (f : Nat → Value × Value) (ni nt : Nat → Nat) (In Tb : Nat → Nat → Int) (T : Nat → Int × Int × Int × Nat) (G : Nat → Int) (E : Nat → Int × Int) (hck : chkB n T F A I = true) (hrt : rgtB n T F A I g G l ni nt In Tb m E = true) (w : World)
    (hc : Cir w (.slice oN n cN) (.slice oG g cG) (.slice oL l cL) (.slice oE m cE) n T g G l f ni nt In Tb m E) (hz : Zs w (.slice (some ⟨Gd, 0, none⟩) n n) n (dgs T n)) :
    Calls Try.prog 28 #[.agg #[.int .i64 F, .int .i64 A, .int .i64 I, .slice oN n cN, .slice oG g cG, .slice oL l cL, .slice oE m cE, .slice (some ⟨Gd, 0, none⟩) n n]] w fun e w2 => e = .returned (.int .i64 (dgL (dgs T n) G g l m ni nt In Tb l)) ∧ Below w.heap.size w w2 := by
  obtain ⟨_, h1, h2, _, _⟩ := rgtB_true hrt
  have a := gatB_true h1
  have b := lksB_true h2
  have ho := (chkB_true hck).2.1
  exact degree_in F A I oN oG oL oE (some ⟨Gd, 0, none⟩) n cN g cG l cL m cE n n f ni nt In Tb (dgs T n) G (by omega) (by omega) (dgs_range T n (of_decide_eq_true ho)) a.2 (fun i hi => by
    obtain ⟨h3, h4, h5⟩ := b.2 i hi
    exact ⟨by omega, by omega, h4, h5⟩) w hz hc.2.1 hc.2.2.1
def cirD (cb rb : Bool) (d : Int) : Int := if cb = true ∧ rb = true then d else 0
set_option maxHeartbeats 8000000 in
set_option maxRecDepth 100000 in
theorem cDegree_any (F A I : Int) (oN oG oL oE : Option Addr) (n cN g cG l cL m cE : Nat) (f : Nat → Value × Value) (ni nt : Nat → Nat) (In Tb : Nat → Nat → Int) (T : Nat → Int × Int × Int × Nat) (G : Nat → Int) (E : Nat → Int × Int) (hgn : g ≤ 100000000000000) (hr : Rng F A I m E) (w : World)
    (hc : Cir w (.slice oN n cN) (.slice oG g cG) (.slice oL l cL) (.slice oE m cE) n T g G l f ni nt In Tb m E) :
    Calls Try.prog 11 #[.agg #[.int .i64 F, .int .i64 A, .int .i64 I, .slice oN n cN, .slice oG g cG, .slice oL l cL, .slice oE m cE]] w fun e w' => e = .returned (.tuple #[.int .i64 (cirD (chkB n T F A I) (rgtB n T F A I g G l ni nt In Tb m E) (dgL (dgs T n) G g l m ni nt In Tb l)), .int .i64 (cirE (chkB n T F A I) (rgtB n T F A I g G l ni nt In Tb m E))]) ∧ Below w.heap.size w w' := by
  obtain ⟨w1, ew1⟩ : ∃ x : World, x = w.alloc (.cells #[.int .i64 F, .int .i64 A, .int .i64 I, .slice oN n cN, .slice oG g cG, .slice oL l cL, .slice oE m cE] 27) := ⟨_, rfl⟩
  have hb1 : Below w.heap.size w w1 := by rw [ew1]; exact bAlloc (Below.refl _ _) _
  obtain ⟨b1, eb1⟩ : ∃ x, x = w.heap.size := ⟨_, rfl⟩
  have f1 : w1.heap[b1]? = some (.cells #[.int .i64 F, .int .i64 A, .int .i64 I, .slice oN n cN, .slice oG g cG, .slice oL l cL, .slice oE m cE] 27) := by rw [ew1, eb1]; show (w.heap.push _)[w.heap.size]? = _; simp
  have HLA : Hid (Calls _ _ _ _ _) := lookAt_any F A I oN oG oL oE n cN g cG l cL m cE f ni nt In Tb T G E hgn hr w1 (hc.below hb1)
  have HCR : Hid (∀ w', Below w.heap.size w w' → Cir w' (.slice oN n cN) (.slice oG g cG) (.slice oL l cL) (.slice oE m cE) n T g G l f ni nt In Tb m E) := fun w' h => hc.below h
  obtain ⟨cb, ecb⟩ : ∃ b, b = chkB n T F A I := ⟨_, rfl⟩
  obtain ⟨rb, erb⟩ : ∃ b, b = rgtB n T F A I g G l ni nt In Tb m E := ⟨_, rfl⟩
  rw [← ecb, ← erb] at HLA
  rw [← ecb, ← erb]
  have HCB : Hid (cb = chkB n T F A I) := ecb
  have HRB : Hid (rb = rgtB n T F A I g G l ni nt In Tb m E) := erb
  have HB1 : Hid (Below w.heap.size w w1) := hb1
  obtain ⟨d0, d1, d2, d3, d4, d5, d6⟩ := cells7 f1
  clear hc hr hgn f1 hb1 ecb erb
  go_enter Try.func11, Try.ntmps11
  go_upto_region 1 with fail
  rw [← ew1, ← eb1]
  clear ew1 eb1
  go_wp2_with fail
  refine Calls.mono HLA.out ?_
  rintro e w3 ⟨hl, hb3⟩
  unfold LookP at hl
  obtain ⟨Gd, rfl, hzd⟩ := hl
  clear d0 d1 d2 d3 d4 d5 d6 HLA
  cases cb
  · have HBF : Hid (Below w.heap.size w (w3.alloc (.cells #[.int .i64 0, .int .i64 0, .int .i64 0, .slice none 0 0, .slice none 0 0, .slice none 0 0, .slice none 0 0, .slice none 0 0] 55))) := bAlloc (bStep HB1.out hb3) _
    rw [show lookE false rb (.agg #[.int .i64 F, .int .i64 A, .int .i64 I, .slice oN n cN, .slice oG g cG, .slice oL l cL, .slice oE m cE, .slice (some ⟨Gd, 0, none⟩) n n]) = .returned (.tuple #[.agg #[.int .i64 0, .int .i64 0, .int .i64 0, .slice none 0 0, .slice none 0 0, .slice none 0 0, .slice none 0 0, .slice none 0 0], .int .i64 110]) from rfl]
    clear hb3 hzd
    go_wp2
    go_ret2
    exact ⟨rfl, HBF.out⟩
  · cases rb
    · have HBF : Hid (Below w.heap.size w (w3.alloc (.cells #[.int .i64 0, .int .i64 0, .int .i64 0, .slice none 0 0, .slice none 0 0, .slice none 0 0, .slice none 0 0, .slice none 0 0] 55))) := bAlloc (bStep HB1.out hb3) _
      rw [show lookE true false (.agg #[.int .i64 F, .int .i64 A, .int .i64 I, .slice oN n cN, .slice oG g cG, .slice oL l cL, .slice oE m cE, .slice (some ⟨Gd, 0, none⟩) n n]) = .returned (.tuple #[.agg #[.int .i64 0, .int .i64 0, .int .i64 0, .slice none 0 0, .slice none 0 0, .slice none 0 0, .slice none 0 0, .slice none 0 0], .int .i64 120]) from rfl]
      clear hb3 hzd
      go_wp2
      go_ret2
      exact ⟨rfl, HBF.out⟩
    · obtain ⟨w4, ew4⟩ : ∃ x : World, x = w3.alloc (.cells #[.int .i64 F, .int .i64 A, .int .i64 I, .slice oN n cN, .slice oG g cG, .slice oL l cL, .slice oE m cE, .slice (some ⟨Gd, 0, none⟩) n n] 55) := ⟨_, rfl⟩
      have hb4 : Below w3.heap.size w3 w4 := by rw [ew4]; exact bAlloc (Below.refl _ _) _
      have HB4 : Hid (Below w.heap.size w w4) := bStep (bStep HB1.out hb3) hb4
      have HDC : Hid (Calls _ _ _ _ _) := degree_right F A I oN oG oL oE n cN g cG l cL m cE Gd f ni nt In Tb T G E HCB.out.symm HRB.out.symm w4 (HCR.out w4 HB4.out) ((hzd rfl rfl).below hb4)
      obtain ⟨dv, edv⟩ : ∃ d, d = dgL (dgs T n) G g l m ni nt In Tb l := ⟨_, rfl⟩
      rw [← edv] at HDC
      have HDV : Hid (dv = dgL (dgs T n) G g l m ni nt In Tb l) := edv
      rw [show lookE true true (.agg #[.int .i64 F, .int .i64 A, .int .i64 I, .slice oN n cN, .slice oG g cG, .slice oL l cL, .slice oE m cE, .slice (some ⟨Gd, 0, none⟩) n n]) = .returned (.tuple #[.agg #[.int .i64 F, .int .i64 A, .int .i64 I, .slice oN n cN, .slice oG g cG, .slice oL l cL, .slice oE m cE, .slice (some ⟨Gd, 0, none⟩) n n], .int .i64 0]) from rfl]
      have ha4 : w3.alloc (.cells #[.int .i64 F, .int .i64 A, .int .i64 I, .slice oN n cN, .slice oG g cG, .slice oL l cL, .slice oE m cE, .slice (some ⟨Gd, 0, none⟩) n n] 55) = w4 := ew4.symm
      obtain ⟨b4, eb4⟩ : ∃ x, x = w3.heap.size := ⟨_, rfl⟩
      have f4 : w4.heap[b4]? = some (.cells #[.int .i64 F, .int .i64 A, .int .i64 I, .slice oN n cN, .slice oG g cG, .slice oL l cL, .slice oE m cE, .slice (some ⟨Gd, 0, none⟩) n n] 55) := by rw [ew4, eb4]; show (w3.heap.push _)[w3.heap.size]? = _; simp
      have hb4' : w3.heap.size = b4 := eb4.symm
      obtain ⟨d0, d1, d2, d3, d4, d5, d6, d7⟩ := cells8 f4
      clear hb3 hzd hb4 ew4 eb4 f4 edv
      go_wp2_with fail
      refine Calls.mono HDC.out ?_
      rintro e w5 ⟨rfl, hb5⟩
      have HB5 : Hid (Below w.heap.size w w5) := bStep HB4.out hb5
      clear hb5 HDC d0 d1 d2 d3 d4 d5 d6 d7 ha4 hb4'
      go_wp2
      go_ret2
      exact ⟨by rw [← HDV.out]; rfl, HB5.out⟩

end Go.Proofs.Ytbhljgenicahoaa
