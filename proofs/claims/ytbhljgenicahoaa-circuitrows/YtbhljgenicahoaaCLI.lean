/- CircuitLess: the walk. -/
import Derived.Test.YtbhljgenicahoaaCLJ
namespace Go.Proofs.Ytbhljgenicahoaa
open Go.RowKit

theorem Rs.zero {w : World} {v : Value} {s : Nat} {F : Nat → Nat → Value} (h : Rs w v s 0 F) (F' : Nat → Nat → Value) : Rs w v s 0 F' := by
  rcases h with h | ⟨b, o, c, h1, h2, h3, h4, _⟩
  · exact Or.inl h
  · exact Or.inr ⟨b, o, c, h1, h2, h3, h4, fun i hi => by omega⟩
set_option maxHeartbeats 16000000 in
set_option maxRecDepth 100000 in
theorem lessLaw_any (F A I : Int) (oN oG oL oE : Option Addr) (n cN g cG l cL m cE : Nat) (f : Nat → Value × Value) (ni nt : Nat → Nat) (In Tb : Nat → Nat → Int) (T : Nat → Int × Int × Int × Nat) (G : Nat → Int) (E : Nat → Int × Int) (hB : n ≤ 2513169434916 ∧ g ≤ 17592186044416 ∧ l ≤ 2932031007402 ∧ m ≤ 8796093022208) (hi : ∀ i, i < l → ni i ≤ 17592186044416 ∧ nt i ≤ 17592186044416) (hr : Rng F A I m E) (w : World)
    (hc : CirQ w (.slice oN n cN) (.slice oG g cG) (.slice oL l cL) (.slice oE m cE) n T g G l f ni nt In Tb m E) :
    Calls Try.prog 7 #[.agg #[.int .i64 F, .int .i64 A, .int .i64 I, .slice oN n cN, .slice oG g cG, .slice oL l cL, .slice oE m cE]] w fun e w' => e = .returned (.bool true) ∧ Below w.heap.size w w' := by
  obtain ⟨w1, ew1⟩ : ∃ x : World, x = w.alloc (.cells #[.int .i64 F, .int .i64 A, .int .i64 I, .slice oN n cN, .slice oG g cG, .slice oL l cL, .slice oE m cE] 27) := ⟨_, rfl⟩
  have hb1 : Below w.heap.size w w1 := by rw [ew1]; exact bAlloc (Below.refl _ _) _
  obtain ⟨b1, eb1⟩ : ∃ x, x = w.heap.size := ⟨_, rfl⟩
  have f1 : w1.heap[b1]? = some (.cells #[.int .i64 F, .int .i64 A, .int .i64 I, .slice oN n cN, .slice oG g cG, .slice oL l cL, .slice oE m cE] 27) := by rw [ew1, eb1]; show (w.heap.push _)[w.heap.size]? = _; simp
  have HF1 : Hid (∀ w', Below w1.heap.size w1 w' → w'.heap[b1]? = some (.cells #[.int .i64 F, .int .i64 A, .int .i64 I, .slice oN n cN, .slice oG g cG, .slice oL l cL, .slice oE m cE] 27)) := fun w' h => (h.block b1 (Array.getElem?_eq_some_iff.1 f1).1).trans f1
  have HBW : Hid (∀ w', Below w1.heap.size w1 w' → Below w.heap.size w w') := fun w' h => bStep hb1 h
  have HCP : Hid (∀ w', Below w1.heap.size w1 w' → Calls Try.prog 10 #[.agg #[.int .i64 F, .int .i64 A, .int .i64 I, .slice oN n cN, .slice oG g cG, .slice oL l cL, .slice oE m cE]] w' fun e w2 => CopyP e w' w2 F A I n T g G l ni nt In Tb m E) := fun w' h => copyC_any F A I oN oG oL oE n cN g cG l cL m cE f ni nt In Tb T G E hB.1 hB.2.1 hB.2.2.1 hB.2.2.2 hi w' ((hc.below hb1).below h)
  have HRG : Hid (Rng F A I m E) := hr
  have HSB : Hid (n ≤ 2513169434916 ∧ g ≤ 17592186044416 ∧ l ≤ 2932031007402 ∧ m ≤ 8796093022208) := hB
  clear hc hi hr f1 hb1 hB
  go_enter Try.func7, Try.ntmps7
  go_upto_region 1 with fail
  rw [← ew1, ← eb1]
  clear ew1 eb1
  go_wp2_with fail
  refine (alive12_any w1).mono ?_
  rintro e w2 ⟨rfl, hb2⟩
  obtain ⟨d0, d1, d2, d3, d4, d5, d6⟩ := cells7 (HF1.out w2 hb2)
  have HB2 : Hid (Below w1.heap.size w1 w2) := hb2
  clear hb2
  go_wp2_with fail
  refine (HCP.out w2 HB2.out).mono ?_
  rintro e w3 hcp
  unfold CopyP at hcp
  obtain ⟨oN', oG', oL', oE', cN', cG', cL', cE', f', rfl, hc3, hb3⟩ := hcp
  have HB3 : Hid (Below w1.heap.size w1 w3) := bStep HB2.out hb3
  have HDG : Hid (Calls _ _ _ _ _) := cDegree_any F A I oN' oG' oL' oE' n cN' g cG' l cL' m cE' f' ni nt In Tb T G E (by have := HSB.out; omega) HRG.out w3 hc3
  clear hc3 hb3 d0 d1 d2 d3 d4 d5 d6
  obtain ⟨cb, ecb⟩ : ∃ b, b = chkB n T F A I := ⟨_, rfl⟩
  obtain ⟨rb, erb⟩ : ∃ b, b = rgtB n T F A I g G l ni nt In Tb m E := ⟨_, rfl⟩
  obtain ⟨dv, edv⟩ : ∃ d, d = dgL (dgs T n) G g l m ni nt In Tb l := ⟨_, rfl⟩
  rw [← ecb, ← erb, ← edv] at HDG
  have HCB : Hid (cb = chkB n T F A I) := ecb
  have HRB : Hid (rb = rgtB n T F A I g G l ni nt In Tb m E) := erb
  have HDV : Hid (dv = dgL (dgs T n) G g l m ni nt In Tb l) := edv
  clear ecb erb edv
  go_wp2_with fail
  refine Calls.mono HDG.out ?_
  rintro e w4 ⟨rfl, hb4⟩
  have HB4 : Hid (Below w1.heap.size w1 w4) := bStep HB3.out hb4
  obtain ⟨d0, d1, d2, d3, d4, d5, d6⟩ := cells7 (HF1.out w4 HB4.out)
  clear hb4 HDG HB2 HB3
  obtain ⟨X, eX⟩ : ∃ x, x = cirD cb rb dv := ⟨_, rfl⟩
  obtain ⟨Y, eY⟩ : ∃ x, x = cirE cb rb := ⟨_, rfl⟩
  rw [← eX, ← eY]
  have HX : Hid (X = cirD cb rb dv) := eX
  have HY : Hid (Y = cirE cb rb) := eY
  clear eX eY
  go_wp2_with fail
  refine (great_any F A I oN oG oL oE n cN g cG l cL m cE w4).mono ?_
  rintro e w4b ⟨rfl, hb4b⟩
  have HB4B : Hid (Below w1.heap.size w1 w4b) := bStep HB4.out hb4b
  have HBF : Hid (Below w.heap.size w w4b) := HBW.out w4b HB4B.out
  clear hb4b d0 d1 d2 d3 d4 d5 d6 HB4
  obtain ⟨gb, egb⟩ : ∃ b, b = grB n g l m := ⟨_, rfl⟩
  rw [← egb]
  clear egb
  cases gb
  rotate_left
  · go_wp2
    go_ret
    exact ⟨rfl, HBF.out⟩
  by_cases hY : Y = 0
  rotate_left
  · go_wp2
    go_ret
    exact ⟨rfl, HBF.out⟩
  subst hY
  have hcr : cb = true ∧ rb = true := by
    have h := HY.out
    cases cb
    · exact absurd h (show ¬ (0 : Int) = 110 by decide)
    · cases rb
      · exact absurd h (show ¬ (0 : Int) = 120 by decide)
      · exact ⟨rfl, rfl⟩
  obtain ⟨rfl, rfl⟩ := hcr
  have hXd : X = dv := HX.out
  subst hXd
  obtain ⟨d0, d1, d2, d3, d4, d5, d6⟩ := cells7 (HF1.out w4b HB4B.out)
  clear HX HY HBF
  go_wp2_with fail
  refine (HCP.out w4b HB4B.out).mono ?_
  rintro e w5 hcp
  unfold CopyP at hcp
  obtain ⟨oN5, oG5, oL5, oE5, cN5, cG5, cL5, cE5, f5, rfl, hc5, hb5⟩ := hcp
  have HB5 : Hid (Below w1.heap.size w1 w5) := bStep HB4B.out hb5
  have HC5 : Hid (Cir w5 (.slice oN5 n cN5) (.slice oG5 g cG5) (.slice oL5 l cL5) (.slice oE5 m cE5) n T g G l f5 ni nt In Tb m E) := hc5
  have HRG' : Hid (Rs w5 (.slice oG5 g cG5) 1 g (fun i _ => .int .i64 (G i))) := hc5.2.1
  have HRL : Hid (Rs w5 (.slice oL5 l cL5) 2 l (fun i => pC (f5 i))) := hc5.2.2.1.1
  have HRE : Hid (Rs w5 (.slice oE5 m cE5) 2 m (fun i => pC (.int .i64 (E i).1, .int .i64 (E i).2))) := hc5.2.2.2
  clear hc5 hb5 d0 d1 d2 d3 d4 d5 d6 HB4B
  obtain ⟨w6, ew6⟩ : ∃ x : World, x = w5.alloc (.cells #[.int .i64 F, .int .i64 A, .int .i64 I, .slice oN5 n cN5, .slice oG5 g cG5, .slice oL5 l cL5, .slice oE5 m cE5] 27) := ⟨_, rfl⟩
  have hb6 : Below w5.heap.size w5 w6 := by rw [ew6]; exact bAlloc (Below.refl _ _) _
  obtain ⟨b5, eb5⟩ : ∃ x, x = w5.heap.size := ⟨_, rfl⟩
  have f6 : w6.heap[b5]? = some (.cells #[.int .i64 F, .int .i64 A, .int .i64 I, .slice oN5 n cN5, .slice oG5 g cG5, .slice oL5 l cL5, .slice oE5 m cE5] 27) := by rw [ew6, eb5]; show (w5.heap.push _)[w5.heap.size]? = _; simp
  have ha6 : w5.alloc (.cells #[.int .i64 F, .int .i64 A, .int .i64 I, .slice oN5 n cN5, .slice oG5 g cG5, .slice oL5 l cL5, .slice oE5 m cE5] 27) = w6 := ew6.symm
  have hb6' : w5.heap.size = b5 := eb5.symm
  have H55 : Hid (w5.heap.size ≤ b5) := Nat.le_of_eq hb6'
  have HF : Hid (w6.heap[b5]? = some (.cells #[.int .i64 F, .int .i64 A, .int .i64 I, .slice oN5 n cN5, .slice oG5 g cG5, .slice oL5 l cL5, .slice oE5 m cE5] 27)) := f6
  have HBX : Hid (Below w5.heap.size w5 w6) := hb6
  obtain ⟨d0, d1, d2, d3, d4, d5, d6⟩ := cells7 f6
  obtain ⟨g2, eg2⟩ : ∃ x, x = g - 1 := ⟨_, rfl⟩
  obtain ⟨l2, el2⟩ : ∃ x, x = l - 1 := ⟨_, rfl⟩
  obtain ⟨m2, em2⟩ : ∃ x, x = m - 1 := ⟨_, rfl⟩
  have Hg2 : Hid (g2 = g - 1) := eg2
  have Hl2 : Hid (l2 = l - 1) := el2
  have Hm2 : Hid (m2 = m - 1) := em2
  clear ew6 eb5 f6 hb6 eg2 el2 em2
  go_upto_if 26 with fail
  go_cut [] from 7 (fun wx => ∃ (oG2 : Option Addr) (cG2 : Nat), Hid (Rs w5 (.slice oG2 g2 cG2) 1 g2 (fun i => (fun i _ => Value.int .i64 (G i)) (i + 1))) ∧ Below w5.heap.size w5 wx ∧ wx.heap[b5]? = some (.cells #[.int .i64 F, .int .i64 A, .int .i64 I, .slice oN5 n cN5, .slice oG2 g2 cG2, .slice oL5 l cL5, .slice oE5 m cE5] 27))
  case first =>
    by_cases h0 : 0 < g
    · have h0i : (0 : Int) < (g : Int) := by omega
      have h1i : (1 : Int) ≤ (g : Int) := by omega
      have h1n : 1 ≤ g := h0
      rcases HRG'.out with ⟨hv, _⟩ | ⟨ab, ao, c', hv, hcap, hst, hab, hcell⟩
      · cases hv; exact absurd h0 (Nat.lt_irrefl 0)
      cases hv
      have hfz : ∀ a, w6.frozen? ⟨b5, a, none⟩ = false := fun a => by have hf := HF.out; simp [World.frozen?, hf]
      have HTL : Hid (∀ oa, oa = (if cG5 = 1 then some ⟨ab, ao, none⟩ else some ⟨ab, ao + 1, none⟩) → Rs w5 (.slice oa g2 (cG5 - 1)) 1 g2 (fun i => (fun i _ => Value.int .i64 (G i)) (i + 1))) := fun oa hoa => by rw [Hg2.out]; exact Rs.tail HRG'.out rfl h0 oa hoa
      have HST : Hid (∀ v w', w' = w6.setCell ⟨b5, 4, none⟩ v → Below w5.heap.size w5 w') := fun v w' e => by rw [e]; exact HBX.out.trans ((KS.setCell (S := fun x => x = b5) w6 ⟨b5, 4, none⟩ v rfl).below HBX.out.size (fun b hb => by rw [hb]; exact H55.out))
      clear hcell
      by_cases hc1 : cG5 = 1
      · subst hc1
        have HZ : Hid (g2 = 0) := (by have := Hg2.out; omega : g2 = 0)
        go_wp2_with fail
        go_meet
        exact ⟨some ⟨ab, ao, none⟩, 0, HTL.out _ (by first | rfl | simp), HST.out _ _ rfl, (by rw [HZ.out]; exact heap_setCell_same _ b5 4 _ _ _ HF.out)⟩
      · go_wp2_with fail
        go_meet
        exact ⟨_, _, HTL.out _ (by rw [if_neg hc1]), HST.out _ _ rfl, (by rw [Hg2.out]; exact heap_setCell_same _ b5 4 _ _ _ HF.out)⟩
    · have h0i : ¬ (0 : Int) < (g : Int) := by omega
      have h0e : Hid (g = 0) := (by omega : g = 0)
      go_wp2_with fail
      go_meet
      exact ⟨oG5, cG5, (by have h := HRG'.out; have h2 := Hg2.out; rw [h0e.out] at h; rw [show g2 = 0 by omega]; exact h.zero _), HBX.out, (by have h := HF.out; rw [show g2 = g by have := Hg2.out; have := h0e.out; omega]; exact h)⟩
  case rest =>
  obtain ⟨oG2, cG2, HTG, hbx, hf⟩ := hcut
  clear HBX HF d0 d1 d2 d3 d4 d5 d6
  obtain ⟨w7, ew7⟩ : ∃ x, x = wc := ⟨_, rfl⟩
  rw [← ew7] at hbx hf ⊢
  clear ew7 wc
  have HBX : Hid (Below w5.heap.size w5 w7) := hbx
  have HF : Hid (w7.heap[b5]? = some (.cells #[.int .i64 F, .int .i64 A, .int .i64 I, .slice oN5 n cN5, .slice oG2 g2 cG2, .slice oL5 l cL5, .slice oE5 m cE5] 27)) := hf
  obtain ⟨d0, d1, d2, d3, d4, d5, d6⟩ := cells7 hf
  clear hbx hf
  go_upto_if 34 with fail
  go_cut [] from 7 (fun wx => ∃ (oL2 : Option Addr) (cL2 : Nat), Hid (Rs w5 (.slice oL2 l2 cL2) 2 l2 (fun i => (fun i => pC (f5 i)) (i + 1))) ∧ Below w5.heap.size w5 wx ∧ wx.heap[b5]? = some (.cells #[.int .i64 F, .int .i64 A, .int .i64 I, .slice oN5 n cN5, .slice oG2 g2 cG2, .slice oL2 l2 cL2, .slice oE5 m cE5] 27))
  case first =>
    by_cases h0 : 0 < l
    · have h0i : (0 : Int) < (l : Int) := by omega
      have h1i : (1 : Int) ≤ (l : Int) := by omega
      have h1n : 1 ≤ l := h0
      rcases HRL.out with ⟨hv, _⟩ | ⟨ab, ao, c', hv, hcap, hst, hab, hcell⟩
      · cases hv; exact absurd h0 (Nat.lt_irrefl 0)
      cases hv
      have hfz : ∀ a, w7.frozen? ⟨b5, a, none⟩ = false := fun a => by have hf := HF.out; simp [World.frozen?, hf]
      have HTL : Hid (∀ oa, oa = (if cL5 = 1 then some ⟨ab, ao, none⟩ else some ⟨ab, ao + 2, none⟩) → Rs w5 (.slice oa l2 (cL5 - 1)) 2 l2 (fun i => (fun i => pC (f5 i)) (i + 1))) := fun oa hoa => by rw [Hl2.out]; exact Rs.tail HRL.out rfl h0 oa hoa
      have HST : Hid (∀ v w', w' = w7.setCell ⟨b5, 5, none⟩ v → Below w5.heap.size w5 w') := fun v w' e => by rw [e]; exact HBX.out.trans ((KS.setCell (S := fun x => x = b5) w7 ⟨b5, 5, none⟩ v rfl).below HBX.out.size (fun b hb => by rw [hb]; exact H55.out))
      clear hcell
      by_cases hc1 : cL5 = 1
      · subst hc1
        have HZ : Hid (l2 = 0) := (by have := Hl2.out; omega : l2 = 0)
        go_wp2_with fail
        go_meet
        exact ⟨some ⟨ab, ao, none⟩, 0, HTL.out _ (by first | rfl | simp), HST.out _ _ rfl, (by rw [HZ.out]; exact heap_setCell_same _ b5 5 _ _ _ HF.out)⟩
      · go_wp2_with fail
        go_meet
        exact ⟨_, _, HTL.out _ (by rw [if_neg hc1]), HST.out _ _ rfl, (by rw [Hl2.out]; exact heap_setCell_same _ b5 5 _ _ _ HF.out)⟩
    · have h0i : ¬ (0 : Int) < (l : Int) := by omega
      have h0e : Hid (l = 0) := (by omega : l = 0)
      go_wp2_with fail
      go_meet
      exact ⟨oL5, cL5, (by have h := HRL.out; have h2 := Hl2.out; rw [h0e.out] at h; rw [show l2 = 0 by omega]; exact h.zero _), HBX.out, (by have h := HF.out; rw [show l2 = l by have := Hl2.out; have := h0e.out; omega]; exact h)⟩
  case rest =>
  obtain ⟨oL2, cL2, HTL, hbx, hf⟩ := hcut
  clear HBX HF d0 d1 d2 d3 d4 d5 d6
  obtain ⟨w8, ew8⟩ : ∃ x, x = wc := ⟨_, rfl⟩
  rw [← ew8] at hbx hf ⊢
  clear ew8 wc
  have HBX : Hid (Below w5.heap.size w5 w8) := hbx
  have HF : Hid (w8.heap[b5]? = some (.cells #[.int .i64 F, .int .i64 A, .int .i64 I, .slice oN5 n cN5, .slice oG2 g2 cG2, .slice oL2 l2 cL2, .slice oE5 m cE5] 27)) := hf
  obtain ⟨d0, d1, d2, d3, d4, d5, d6⟩ := cells7 hf
  clear hbx hf
  go_upto_if 42 with fail
  go_cut [] from 7 (fun wx => ∃ (oE2 : Option Addr) (cE2 : Nat), Hid (Rs w5 (.slice oE2 m2 cE2) 2 m2 (fun i => (fun i => pC (.int .i64 (E i).1, .int .i64 (E i).2)) (i + 1))) ∧ Below w5.heap.size w5 wx ∧ wx.heap[b5]? = some (.cells #[.int .i64 F, .int .i64 A, .int .i64 I, .slice oN5 n cN5, .slice oG2 g2 cG2, .slice oL2 l2 cL2, .slice oE2 m2 cE2] 27))
  case first =>
    by_cases h0 : 0 < m
    · have h0i : (0 : Int) < (m : Int) := by omega
      have h1i : (1 : Int) ≤ (m : Int) := by omega
      have h1n : 1 ≤ m := h0
      rcases HRE.out with ⟨hv, _⟩ | ⟨ab, ao, c', hv, hcap, hst, hab, hcell⟩
      · cases hv; exact absurd h0 (Nat.lt_irrefl 0)
      cases hv
      have hfz : ∀ a, w8.frozen? ⟨b5, a, none⟩ = false := fun a => by have hf := HF.out; simp [World.frozen?, hf]
      have HTL : Hid (∀ oa, oa = (if cE5 = 1 then some ⟨ab, ao, none⟩ else some ⟨ab, ao + 2, none⟩) → Rs w5 (.slice oa m2 (cE5 - 1)) 2 m2 (fun i => (fun i => pC (.int .i64 (E i).1, .int .i64 (E i).2)) (i + 1))) := fun oa hoa => by rw [Hm2.out]; exact Rs.tail HRE.out rfl h0 oa hoa
      have HST : Hid (∀ v w', w' = w8.setCell ⟨b5, 6, none⟩ v → Below w5.heap.size w5 w') := fun v w' e => by rw [e]; exact HBX.out.trans ((KS.setCell (S := fun x => x = b5) w8 ⟨b5, 6, none⟩ v rfl).below HBX.out.size (fun b hb => by rw [hb]; exact H55.out))
      clear hcell
      by_cases hc1 : cE5 = 1
      · subst hc1
        have HZ : Hid (m2 = 0) := (by have := Hm2.out; omega : m2 = 0)
        go_wp2_with fail
        go_meet
        exact ⟨some ⟨ab, ao, none⟩, 0, HTL.out _ (by first | rfl | simp), HST.out _ _ rfl, (by rw [HZ.out]; exact heap_setCell_same _ b5 6 _ _ _ HF.out)⟩
      · go_wp2_with fail
        go_meet
        exact ⟨_, _, HTL.out _ (by rw [if_neg hc1]), HST.out _ _ rfl, (by rw [Hm2.out]; exact heap_setCell_same _ b5 6 _ _ _ HF.out)⟩
    · have h0i : ¬ (0 : Int) < (m : Int) := by omega
      have h0e : Hid (m = 0) := (by omega : m = 0)
      go_wp2_with fail
      go_meet
      exact ⟨oE5, cE5, (by have h := HRE.out; have h2 := Hm2.out; rw [h0e.out] at h; rw [show m2 = 0 by omega]; exact h.zero _), HBX.out, (by have h := HF.out; rw [show m2 = m by have := Hm2.out; have := h0e.out; omega]; exact h)⟩
  case rest =>
  obtain ⟨oE2, cE2, HTE, hbx, hf⟩ := hcut
  clear HBX HF d0 d1 d2 d3 d4 d5 d6
  obtain ⟨w9, ew9⟩ : ∃ x, x = wc := ⟨_, rfl⟩
  rw [← ew9] at hbx hf ⊢
  clear ew9 wc
  have HBX : Hid (Below w5.heap.size w5 w9) := hbx
  have HF : Hid (w9.heap[b5]? = some (.cells #[.int .i64 F, .int .i64 A, .int .i64 I, .slice oN5 n cN5, .slice oG2 g2 cG2, .slice oL2 l2 cL2, .slice oE2 m2 cE2] 27)) := hf
  obtain ⟨d0, d1, d2, d3, d4, d5, d6⟩ := cells7 hf
  clear hbx hf
  have hgt := rgtB_less HRB.out.symm
  have hdl := dgL_tail (dgs T n) G g l m ni nt In Tb
  have hcl := cq_less (T := T) (n := n) (rgtB_true HRB.out.symm).2.2.2.1
  rw [← Hg2.out, ← Hl2.out, ← Hm2.out] at hgt hdl
  rw [← Hm2.out] at hcl
  rw [← HDV.out] at hdl
  have HC9 : Hid (∀ w', Below w5.heap.size w5 w' → Cir w' (.slice oN5 n cN5) (.slice oG2 g2 cG2) (.slice oL2 l2 cL2) (.slice oE2 m2 cE2) n T g2 (fun i => G (i + 1)) l2 (fun i => f5 (i + 1)) (fun i => ni (i + 1)) (fun i => nt (i + 1)) (fun i => In (i + 1)) (fun i => Tb (i + 1)) m2 (fun i => E (i + 1))) := fun w' h => Cir.below ⟨HC5.out.1, HTG.out, ⟨HTL.out, fun i hi => HC5.out.2.2.1.2 (i + 1) (by have := Hl2.out; omega)⟩, HTE.out⟩ h
  have HR9 : Hid (Rng F A I m2 (fun i => E (i + 1))) := by
    obtain ⟨r1, r2, r3, r4⟩ := HRG.out
    exact ⟨r1, r2, r3, fun j hj => r4 (j + 1) (by have := Hm2.out; omega)⟩
  have HD9 : Hid (Calls _ _ _ _ _) := cDegree_any F A I oN5 oG2 oL2 oE2 n cN5 g2 cG2 l2 cL2 m2 cE2 (fun i => f5 (i + 1)) (fun i => ni (i + 1)) (fun i => nt (i + 1)) (fun i => In (i + 1)) (fun i => Tb (i + 1)) T (fun i => G (i + 1)) (fun i => E (i + 1)) (by have := HSB.out; have := Hg2.out; omega) HR9.out w9 (HC9.out w9 HBX.out)
  have HQ9 : Hid (∀ w', Below w5.heap.size w5 w' → Calls Try.prog 16 #[.agg #[.int .i64 F, .int .i64 A, .int .i64 I, .slice oN5 n cN5, .slice oG2 g2 cG2, .slice oL2 l2 cL2, .slice oE2 m2 cE2]] w' fun e w2 => QuP e w' w2 true T n (fun i => E (i + 1)) m2 ∧ Below w'.heap.size w' w2) := fun w' h => by
    have hq := cQueries_any F A I oN5 oG2 oL2 oE2 n cN5 g2 cG2 l2 cL2 m2 cE2 (fun i => f5 (i + 1)) (fun i => ni (i + 1)) (fun i => nt (i + 1)) (fun i => In (i + 1)) (fun i => Tb (i + 1)) T (fun i => G (i + 1)) (fun i => E (i + 1)) (by have := HSB.out; have := Hg2.out; omega) HR9.out w' (HC9.out w' h)
    rw [hgt, ← HCB.out, Bool.true_and] at hq
    exact hq
  rw [hgt, ← HCB.out] at HD9
  obtain ⟨x9, ex9⟩ : ∃ x, x = dgL (dgs T n) (fun i => G (i + 1)) g2 l2 m2 (fun i => ni (i + 1)) (fun i => nt (i + 1)) (fun i => In (i + 1)) (fun i => Tb (i + 1)) l2 := ⟨_, rfl⟩
  rw [← ex9] at hdl HD9
  rw [show cirD true true x9 = x9 from rfl, show cirE true true = 0 from rfl] at HD9
  have HCL : Hid ((cq T n (fun i => E (i + 1)) m2).1 ≤ (cq T n E m).1) := hcl
  have HQN : Hid ((cq T n E m).1 ≤ 1000) := by
    have h1 := cq_le T n E m
    have h2 := (chkB_true HCB.out.symm).1
    have h3 := (rgtB_true HRB.out.symm).2.2.2.1
    unfold eqB at h3
    rw [Bool.and_eq_true] at h3
    have h4 : m ≤ 8 := of_decide_eq_true h3.1
    show (cq T n E m).1 ≤ 1000
    omega
  clear hgt hcl ex9
  go_wp2_with fail
  refine Calls.mono HD9.out ?_
  rintro e w10 ⟨rfl, hb10⟩
  have HB10 : Hid (Below w5.heap.size w5 w10) := bStep HBX.out hb10
  have HF10 : Hid (w10.heap[b5]? = some (.cells #[.int .i64 F, .int .i64 A, .int .i64 I, .slice oN5 n cN5, .slice oG2 g2 cG2, .slice oL2 l2 cL2, .slice oE2 m2 cE2] 27)) := (hb10.block b5 (Array.getElem?_eq_some_iff.1 HF.out).1).trans HF.out
  clear hb10 HD9 d0 d1 d2 d3 d4 d5 d6
  go_upto_region 14 with fail
  refine wp_region_Z (fun w' => w'.heap[b5]? = some (.cells #[.int .i64 F, .int .i64 A, .int .i64 I, .slice oN5 n cN5, .slice oG2 g2 cG2, .slice oL2 l2 cL2, .slice oE2 m2 cE2] 27) ∧ w'.heap[b1]? = some (.cells #[.int .i64 F, .int .i64 A, .int .i64 I, .slice oN n cN, .slice oG g cG, .slice oL l cL, .slice oE m cE] 27)) 18 (by kernel_rfl) ?_
  obtain ⟨wD, hD⟩ : ∃ z : World, z = w10.drew := ⟨_, rfl⟩
  rw [← hD]
  have hq : Below w10.heap.size w10 wD := by rw [hD]; exact (Below.refl _ _).drew
  have hp10 : w10.heap[b5]? = some (.cells #[.int .i64 F, .int .i64 A, .int .i64 I, .slice oN5 n cN5, .slice oG2 g2 cG2, .slice oL2 l2 cL2, .slice oE2 m2 cE2] 27) ∧ w10.heap[b1]? = some (.cells #[.int .i64 F, .int .i64 A, .int .i64 I, .slice oN n cN, .slice oG g cG, .slice oL l cL, .slice oE m cE] 27) := ⟨HF10.out, HF1.out w10 (bStep HB5.out HB10.out)⟩
  have hp : wD.heap[b5]? = some (.cells #[.int .i64 F, .int .i64 A, .int .i64 I, .slice oN5 n cN5, .slice oG2 g2 cG2, .slice oL2 l2 cL2, .slice oE2 m2 cE2] 27) ∧ wD.heap[b1]? = some (.cells #[.int .i64 F, .int .i64 A, .int .i64 I, .slice oN n cN, .slice oG g cG, .slice oL l cL, .slice oE m cE] 27) := ⟨(hq.block b5 (Array.getElem?_eq_some_iff.1 hp10.1).1).trans hp10.1, (hq.block b1 (Array.getElem?_eq_some_iff.1 hp10.2).1).trans hp10.2⟩
  have HBD : Hid (Below w5.heap.size w5 wD) := bStep HB10.out hq
  clear hD hq hp10
  refine wpZ_take (i := 0) (v := .int .i64 0) 52 rfl rfl (by kernel_rfl) (by kernel_rfl) (by kernel_rfl) (Or.inr (by decide)) (fun _ _ _ h => h) (Or.inl ⟨by rfl, fun w hSw => by go_simp⟩) hp ?_
  simp only [Act.put, List.setIfInBounds_toArray]
  dsimp only [List.set_cons_zero, List.set_cons_succ]
  refine wpZ_take (i := 1) (v := .bool true) 53 rfl rfl (by kernel_rfl) (by kernel_rfl) (by kernel_rfl) (Or.inr (by decide)) (fun _ _ _ h => h) (Or.inl ⟨by rfl, fun w hSw => by go_simp⟩) hp ?_
  simp only [Act.put, List.setIfInBounds_toArray]
  dsimp only [List.set_cons_zero, List.set_cons_succ]
  refine wpZ_take (i := 2) (v := .bool true) 54 rfl rfl (by kernel_rfl) (by kernel_rfl) (by kernel_rfl) (Or.inr (by decide)) (fun _ _ _ h => h) (Or.inl ⟨by rfl, fun w hSw => by go_simp⟩) hp ?_
  simp only [Act.put, List.setIfInBounds_toArray]
  dsimp only [List.set_cons_zero, List.set_cons_succ]
  refine wpZ_take (i := 3) (v := .int .i64 x9) 55 rfl rfl (by kernel_rfl) (by kernel_rfl) (by kernel_rfl) (Or.inr (by decide)) (fun _ _ _ h => h) (Or.inl ⟨by rfl, fun w hSw => by go_simp⟩) hp ?_
  simp only [Act.put, List.setIfInBounds_toArray]
  dsimp only [List.set_cons_zero, List.set_cons_succ]
  refine wpZ_take (i := 4) (v := .int .i64 X) 56 rfl rfl (by kernel_rfl) (by kernel_rfl) (by kernel_rfl) (Or.inr (by decide)) (fun _ _ _ h => h) (Or.inl ⟨by rfl, fun w hSw => by go_simp⟩) hp ?_
  simp only [Act.put, List.setIfInBounds_toArray]
  dsimp only [List.set_cons_zero, List.set_cons_succ]
  refine wpZ_take (i := 5) (v := .bool true) 57 rfl rfl (by kernel_rfl) (by kernel_rfl) (by kernel_rfl) (Or.inr (by decide)) (fun _ _ _ h => h) (Or.inl ⟨by rfl, fun w hSw => by go_simp⟩) hp ?_
  simp only [Act.put, List.setIfInBounds_toArray]
  dsimp only [List.set_cons_zero, List.set_cons_succ]
  refine wpZ_take (i := 6) (v := .bool true) 58 rfl rfl (by kernel_rfl) (by kernel_rfl) (by kernel_rfl) (Or.inr (by decide)) (fun _ _ _ h => h) (Or.inl ⟨by rfl, fun w hSw => by go_simp⟩) hp ?_
  simp only [Act.put, List.setIfInBounds_toArray]
  dsimp only [List.set_cons_zero, List.set_cons_succ]
  refine wpZ_take (i := 7) (v := .bool true) 59 rfl rfl (by kernel_rfl) (by kernel_rfl) (by kernel_rfl) (Or.inr (by decide)) (fun _ _ _ h => h) (Or.inl ⟨by rfl, fun w hSw => by go_simp⟩) hp ?_
  simp only [Act.put, List.setIfInBounds_toArray]
  dsimp only [List.set_cons_zero, List.set_cons_succ]
  refine wpZ_take (i := 8) (v := .agg #[.int .i64 F, .int .i64 A, .int .i64 I, .slice oN5 n cN5, .slice oG2 g2 cG2, .slice oL2 l2 cL2, .slice oE2 m2 cE2]) 60 rfl rfl (by kernel_rfl) (by kernel_rfl) (by kernel_rfl) (Or.inr (by decide)) (fun _ _ _ h => h) (Or.inl ⟨by rfl, fun w hSw => by obtain ⟨d0, d1, d2, d3, d4, d5, d6⟩ := cells7 hSw.1; go_simp⟩) hp ?_
  simp only [Act.put, List.setIfInBounds_toArray]
  dsimp only [List.set_cons_zero, List.set_cons_succ]
  refine wpZ_take (i := 11) (v := .agg #[.int .i64 F, .int .i64 A, .int .i64 I, .slice oN n cN, .slice oG g cG, .slice oL l cL, .slice oE m cE]) 63 rfl rfl (by kernel_rfl) (by kernel_rfl) (by kernel_rfl) (Or.inr (by decide)) (fun _ _ _ h => h) (Or.inl ⟨by rfl, fun w hSw => by obtain ⟨d0, d1, d2, d3, d4, d5, d6⟩ := cells7 hSw.2; go_simp⟩) hp ?_
  simp only [Act.put, List.setIfInBounds_toArray]
  dsimp only [List.set_cons_zero, List.set_cons_succ]
  refine wpZ_one (i := 9) (by kernel_rfl) rfl (fun K hK => ?_)
  rw [if_pos (show Region.wanted _ _ = true from rfl)]
  go_simp
  refine (HQ9.out wD HBD.out).mono ?_
  rintro e w11 ⟨hqp, hb11⟩
  unfold QuP at hqp
  obtain ⟨v11, rfl, ho11⟩ := hqp
  rw [if_pos rfl] at ho11
  obtain ⟨o11, c11, rfl, _⟩ := own_shape ho11
  have hp11 : w11.heap[b5]? = some (.cells #[.int .i64 F, .int .i64 A, .int .i64 I, .slice oN5 n cN5, .slice oG2 g2 cG2, .slice oL2 l2 cL2, .slice oE2 m2 cE2] 27) ∧ w11.heap[b1]? = some (.cells #[.int .i64 F, .int .i64 A, .int .i64 I, .slice oN n cN, .slice oG g cG, .slice oL l cL, .slice oE m cE] 27) := ⟨(hb11.block b5 (Array.getElem?_eq_some_iff.1 hp.1).1).trans hp.1, (hb11.block b1 (Array.getElem?_eq_some_iff.1 hp.2).1).trans hp.2⟩
  have HB11 : Hid (Below w5.heap.size w5 w11) := bStep HBD.out hb11
  obtain ⟨M1, eM1⟩ : ∃ x, x = (cq T n (fun i => E (i + 1)) m2).1 := ⟨_, rfl⟩
  rw [← eM1] at HCL ⊢
  clear ho11 hb11 eM1 hp
  go_wp2_with fail
  refine hK.out _ _ (fun _ => hp11) ?_
  clear hK K
  refine wpZ_take (i := 10) (v := .int .i64 (M1 : Int)) 62 rfl rfl (by kernel_rfl) (by kernel_rfl) (by kernel_rfl) (Or.inr (by decide)) (fun _ _ _ h => h) (Or.inl ⟨by rfl, fun w hSw => by go_simp⟩) hp11 ?_
  simp only [Act.put, List.setIfInBounds_toArray]
  dsimp only [List.set_cons_zero, List.set_cons_succ]
  refine wpZ_one (i := 12) (by kernel_rfl) rfl (fun K hK => ?_)
  rw [if_pos (show Region.wanted _ _ = true from rfl)]
  go_simp
  refine (HCP.out w11 (bStep HB5.out HB11.out)).mono ?_
  rintro e w12 hcp
  unfold CopyP at hcp
  obtain ⟨oN', oG', oL', oE', cN', cG', cL', cE', f', rfl, hc12, hb12⟩ := hcp
  have hp12 : w12.heap[b5]? = some (.cells #[.int .i64 F, .int .i64 A, .int .i64 I, .slice oN5 n cN5, .slice oG2 g2 cG2, .slice oL2 l2 cL2, .slice oE2 m2 cE2] 27) ∧ w12.heap[b1]? = some (.cells #[.int .i64 F, .int .i64 A, .int .i64 I, .slice oN n cN, .slice oG g cG, .slice oL l cL, .slice oE m cE] 27) := ⟨(hb12.block b5 (Array.getElem?_eq_some_iff.1 hp11.1).1).trans hp11.1, (hb12.block b1 (Array.getElem?_eq_some_iff.1 hp11.2).1).trans hp11.2⟩
  have HB12 : Hid (Below w5.heap.size w5 w12) := bStep HB11.out hb12
  have HQ12 : Hid (Calls _ _ _ _ _) := cQueries_any F A I oN' oG' oL' oE' n cN' g cG' l cL' m cE' f' ni nt In Tb T G E (by have := HSB.out; omega) HRG.out w12 hc12
  rw [← HCB.out, ← HRB.out] at HQ12
  clear hc12 hb12 hp11
  go_wp2_with fail
  refine hK.out _ _ (fun _ => hp12) ?_
  clear hK K
  refine wpZ_one (i := 13) (by kernel_rfl) rfl (fun K hK => ?_)
  rw [if_pos (show Region.wanted _ _ = true from rfl)]
  go_simp
  refine Calls.mono HQ12.out ?_
  rintro e w13 ⟨hqp, hb13⟩
  unfold QuP at hqp
  obtain ⟨v13, rfl, ho13⟩ := hqp
  rw [if_pos (show (true && true) = true from rfl)] at ho13
  obtain ⟨o13, c13, rfl, _⟩ := own_shape ho13
  have hp13 : w13.heap[b5]? = some (.cells #[.int .i64 F, .int .i64 A, .int .i64 I, .slice oN5 n cN5, .slice oG2 g2 cG2, .slice oL2 l2 cL2, .slice oE2 m2 cE2] 27) ∧ w13.heap[b1]? = some (.cells #[.int .i64 F, .int .i64 A, .int .i64 I, .slice oN n cN, .slice oG g cG, .slice oL l cL, .slice oE m cE] 27) := ⟨(hb13.block b5 (Array.getElem?_eq_some_iff.1 hp12.1).1).trans hp12.1, (hb13.block b1 (Array.getElem?_eq_some_iff.1 hp12.2).1).trans hp12.2⟩
  have HBF : Hid (Below w.heap.size w w13) := HBW.out w13 (bStep (bStep HB5.out HB12.out) hb13)
  obtain ⟨M2, eM2⟩ : ∃ x, x = (cq T n E m).1 := ⟨_, rfl⟩
  rw [← eM2] at HCL ⊢
  have hM : (M1 : Int) ≤ (M2 : Int) := by have := HCL.out; omega
  clear ho13 hb13 eM2 hp12 HQ12
  go_wp2_with fail
  refine hK.out _ _ (fun _ => hp13) ?_
  clear hK K
  refine wpZ_take (i := 14) (v := .int .i64 (M2 : Int)) 66 rfl rfl (by kernel_rfl) (by kernel_rfl) (by kernel_rfl) (Or.inr (by decide)) (fun _ _ _ h => h) (Or.inl ⟨by rfl, fun w hSw => by go_simp⟩) hp13 ?_
  simp only [Act.put, List.setIfInBounds_toArray]
  dsimp only [List.set_cons_zero, List.set_cons_succ]
  refine wpZ_take (i := 15) (v := .bool true) 67 rfl rfl (by kernel_rfl) (by kernel_rfl) (by kernel_rfl) (Or.inr (by decide)) (fun _ _ _ h => h) (Or.inl ⟨by rfl, fun w hSw => by go_simp⟩) hp13 ?_
  simp only [Act.put, List.setIfInBounds_toArray]
  dsimp only [List.set_cons_zero, List.set_cons_succ]
  refine wpZ_take (i := 16) (v := .bool true) 68 rfl rfl (by kernel_rfl) (by kernel_rfl) (by kernel_rfl) (Or.inr (by decide)) (fun _ _ _ h => h) (Or.inl ⟨by rfl, fun w hSw => by go_simp⟩) hp13 ?_
  simp only [Act.put, List.setIfInBounds_toArray]
  dsimp only [List.set_cons_zero, List.set_cons_succ]
  refine wpZ_take (i := 17) (v := .bool true) 2 rfl rfl (by kernel_rfl) (by kernel_rfl) (by kernel_rfl) (Or.inr (by decide)) (fun _ _ _ h => h) (Or.inl ⟨by rfl, fun w hSw => by go_simp⟩) hp13 ?_
  simp only [Act.put, List.setIfInBounds_toArray]
  dsimp only [List.set_cons_zero, List.set_cons_succ]
  refine wpZ_done (by kernel_rfl) ?_ _
  go_wp2
  go_ret
  exact ⟨rfl, HBF.out⟩
theorem lessLaw_row (F A I : Int) (oN oG oL oE : Option Addr) (n cN g cG l cL m cE : Nat) (f : Nat → Value × Value) (ni nt : Nat → Nat) (In Tb : Nat → Nat → Int) (T : Nat → Int × Int × Int × Nat) (G : Nat → Int) (E : Nat → Int × Int) (hB : n ≤ 2513169434916 ∧ g ≤ 17592186044416 ∧ l ≤ 2932031007402 ∧ m ≤ 8796093022208) (hi : ∀ i, i < l → ni i ≤ 17592186044416 ∧ nt i ≤ 17592186044416) (hr : Rng F A I m E) (w : World)
    (hc : CirQ w (.slice oN n cN) (.slice oG g cG) (.slice oL l cL) (.slice oE m cE) n T g G l f ni nt In Tb m E) :
    Calls Try.prog 7 #[.agg #[.int .i64 F, .int .i64 A, .int .i64 I, .slice oN n cN, .slice oG g cG, .slice oL l cL, .slice oE m cE]] w fun e w' => e = .returned (.bool true) ∧ Below w.heap.size w w' := lessLaw_any F A I oN oG oL oE n cN g cG l cL m cE f ni nt In Tb T G E hB hi hr w hc

end Go.Proofs.Ytbhljgenicahoaa
