/- sheet.fill: a circuit filled by a sheet. -/
import Derived.Test.YtgldibfpidmfhaaGreatDoorUSHA
import Derived.Test.YtgldibfpidmfhaaGreatDoorULE
import Derived.Test.YtgldibfpidmfhaaGreatDoorUGX
namespace Go.Proofs.YtgldibfpidmfhaaGreatDoor
open Go.RowKit
/-- Does the sheet fit? -/
def shtB (F A I : Int) (m na nb nc nd : Nat) (La Lb Lc : Nat → Nat) (P : Nat → Int × Int × Int × Int) (k : Int) : Bool := fewB na La F (usN k) && fewB nb Lb A (usN k) && fewB nc Lc I (usN k) && copB nd P m k
/-- The error of a circuit that is filled. -/
def filE (ck k : Int) (fb : Bool) : Int := if ck ≠ 0 then ck else if k < 3 ∨ 5 < k then 60 else if fb = false then 130 else 0
def FilP (e : Ending) (ek : Int) (F A I : Int) (oN oG oL oE oa ob oc od : Option Addr) (n cN g cG l cL m cE na ca nb cb nc cc nd cd : Nat) (k : Int) : Prop := (ek = 0 ∧ e = .returned (.tuple #[.agg #[.int .i64 F, .int .i64 A, .int .i64 I, .slice oN n cN, .slice oG g cG, .slice oL l cL, .slice oE m cE, .slice oa na ca, .slice ob nb cb, .slice oc nc cc, .slice od nd cd, .int .i64 k], .int .i64 0])) ∨ (ek ≠ 0 ∧ e = .returned (.tuple #[.agg #[.int .i64 0, .int .i64 0, .int .i64 0, .slice none 0 0, .slice none 0 0, .slice none 0 0, .slice none 0 0, .slice none 0 0, .slice none 0 0, .slice none 0 0, .slice none 0 0, .int .i64 0], .int .i64 ek]))
theorem flUnd : Tryz.prog.underlying 65 = some (.struct (Tryz.prog.fieldsOf 65)) := by kernel_rfl
theorem flSize : (Tryz.prog.info? 65).map (·.size) = some 12 := by kernel_rfl
theorem one12 (F A I : Int) (oN oG oL oE oa ob oc od : Option Addr) (n cN g cG l cL m cE na ca nb cb nc cc nd cd : Nat) (k : Int) : (#[.int .i64 F, .int .i64 A, .int .i64 I, .slice oN n cN, .slice oG g cG, .slice oL l cL, .slice oE m cE, .slice oa na ca, .slice ob nb cb, .slice oc nc cc, .slice od nd cd, .int .i64 k] : Array Value).all (·.oneCell') = true := by
  refine all_oneCell_toArray ?_
  simp only [List.forall_mem_cons]
  exact ⟨rfl, rfl, rfl, rfl, rfl, rfl, rfl, rfl, rfl, rfl, rfl, rfl, fun v hv => by cases hv⟩
theorem oneZ12 : (#[.int .i64 0, .int .i64 0, .int .i64 0, .slice none 0 0, .slice none 0 0, .slice none 0 0, .slice none 0 0, .slice none 0 0, .slice none 0 0, .slice none 0 0, .slice none 0 0, .int .i64 0] : Array Value).all (·.oneCell') = true := by
  refine all_oneCell_toArray ?_
  simp only [List.forall_mem_cons]
  exact ⟨rfl, rfl, rfl, rfl, rfl, rfl, rfl, rfl, rfl, rfl, rfl, rfl, fun v hv => by cases hv⟩
theorem results_fill (tmps : Array Value) (w : World) (g : Nat) (cs : Array Value) (e : Value) (h2 : tmps.getD 6 undef = .pointer (some ⟨g, 0, none⟩)) (h3 : tmps.getD 7 undef = e) (hg : w.heap[g]? = some (.cells cs 65)) (hs : cs.size = 12) :
    (results Tryz.f44 tmps).run Tryz.prog w = .ok (.tuple #[.agg cs, e]) w := by
  have h2' : tmps[6]?.getD undef = .pointer (some ⟨g, 0, none⟩) := by simpa using h2
  have h3' : tmps[7]?.getD undef = e := by simpa using h3
  simp [results, h2', h3', asAddr, run_loadVar_row w g 65 65 cs (0, 0) _ hg flUnd rfl (by rw [hs]; exact flSize)]
set_option maxHeartbeats 4000000 in
set_option maxRecDepth 100000 in
theorem fill_any (F A I : Int) (oN oG oL oE oa ob oc od : Option Addr) (n cN g cG l cL m cE na ca nb cb nc cc nd cd : Nat) (k : Int) (f : Nat → Value × Value) (ni nt : Nat → Nat) (In Tb : Nat → Nat → Int) (T : Nat → Int × Int × Int × Nat) (G : Nat → Int) (E : Nat → Int × Int) (Fa Fb Fc : Nat → Value) (La Lb Lc : Nat → Nat) (Ea Eb Ec : Nat → Nat → Nat) (P : Nat → Int × Int × Int × Int) (hgn : g ≤ 100000000000000) (hr : Rng F A I m E) (ha : na ≤ 1000000) (hb : nb ≤ 1000000) (hc : nc ≤ 1000000) (hd : nd ≤ 1000000) (w : World) (hci : Cir w (.slice oN n cN) (.slice oG g cG) (.slice oL l cL) (.slice oE m cE) n T g G l f ni nt In Tb m E) (hsh : ShQ w (.slice oa na ca) (.slice ob nb cb) (.slice oc nc cc) (.slice od nd cd) na Fa La Ea nb Fb Lb Eb nc Fc Lc Ec nd P) :
    Calls Tryz.prog 44 #[.agg #[.int .i64 F, .int .i64 A, .int .i64 I, .slice oN n cN, .slice oG g cG, .slice oL l cL, .slice oE m cE], .int .i64 k, .agg #[.slice oa na ca, .slice ob nb cb, .slice oc nc cc, .slice od nd cd]] w fun e w' => FilP e (filE (cirE (chkB n T F A I) (rgtB n T F A I g G l ni nt In Tb m E)) k (shtB F A I m na nb nc nd La Lb Lc P k)) F A I oN oG oL oE oa ob oc od n cN g cG l cL m cE na ca nb cb nc cc nd cd k ∧ Below w.heap.size w w' := by
  obtain ⟨B1, eB1⟩ : ∃ b, b = w.heap.size := ⟨_, rfl⟩
  obtain ⟨B2, eB2⟩ : ∃ b, b = w.heap.size + 1 := ⟨_, rfl⟩
  obtain ⟨B3, eB3⟩ : ∃ b, b = w.heap.size + 1 + 1 := ⟨_, rfl⟩
  obtain ⟨w1, hw1⟩ : ∃ z : World, z = w.alloc (.cells #[.int .i64 F, .int .i64 A, .int .i64 I, .slice oN n cN, .slice oG g cG, .slice oL l cL, .slice oE m cE] 27) := ⟨_, rfl⟩
  have hz1 : w1.heap.size = w.heap.size + 1 := by rw [hw1]; simp
  obtain ⟨w2, hw2⟩ : ∃ z : World, z = w1.alloc (.cells #[.slice oa na ca, .slice ob nb cb, .slice oc nc cc, .slice od nd cd] 31) := ⟨_, rfl⟩
  have hz2 : w2.heap.size = w.heap.size + 1 + 1 := by rw [hw2]; simp [hz1]
  obtain ⟨w3, hw3⟩ : ∃ z : World, z = w2.alloc (.cells #[.int .i64 0, .int .i64 0, .int .i64 0, .slice none 0 0, .slice none 0 0, .slice none 0 0, .slice none 0 0, .slice none 0 0, .slice none 0 0, .slice none 0 0, .slice none 0 0, .int .i64 0] 65) := ⟨_, rfl⟩
  have hz3 : w3.heap.size = w.heap.size + 1 + 1 + 1 := by rw [hw3]; simp [hz2]
  have hb1 : Below w.heap.size w w1 := by rw [hw1]; exact bAlloc (Below.refl _ _) _
  have hb2 : Below w1.heap.size w1 w2 := by rw [hw2]; exact bAlloc (Below.refl _ _) _
  have hb3 : Below w2.heap.size w2 w3 := by rw [hw3]; exact bAlloc (Below.refl _ _) _
  have f1 : w1.heap[B1]? = some (.cells #[.int .i64 F, .int .i64 A, .int .i64 I, .slice oN n cN, .slice oG g cG, .slice oL l cL, .slice oE m cE] 27) := by rw [hw1, eB1]; show (w.heap.push _)[w.heap.size]? = _; simp
  have f13 := (hb3.block B1 (by omega)).trans ((hb2.block B1 (by omega)).trans f1)
  have f2 : w2.heap[B2]? = some (.cells #[.slice oa na ca, .slice ob nb cb, .slice oc nc cc, .slice od nd cd] 31) := by rw [hw2, eB2, ← hz1]; show (w1.heap.push _)[w1.heap.size]? = _; simp
  have f23 := (hb3.block B2 (by omega)).trans f2
  have f33 : w3.heap[B3]? = some (.cells #[.int .i64 0, .int .i64 0, .int .i64 0, .slice none 0 0, .slice none 0 0, .slice none 0 0, .slice none 0 0, .slice none 0 0, .slice none 0 0, .slice none 0 0, .slice none 0 0, .int .i64 0] 65) := by rw [hw3, eB3, ← hz2]; show (w2.heap.push _)[w2.heap.size]? = _; simp
  have HB3 : Hid (Below w.heap.size w w3) := bStep (bStep hb1 hb2) hb3
  have HF1 : Hid (∀ w', Below w3.heap.size w3 w' → w'.cell? ⟨B1, 0, none⟩ = some (.int .i64 F) ∧ w'.cell? ⟨B1, 1, none⟩ = some (.int .i64 A) ∧ w'.cell? ⟨B1, 2, none⟩ = some (.int .i64 I) ∧ w'.cell? ⟨B1, 3, none⟩ = some (.slice oN n cN) ∧ w'.cell? ⟨B1, 4, none⟩ = some (.slice oG g cG) ∧ w'.cell? ⟨B1, 5, none⟩ = some (.slice oL l cL) ∧ w'.cell? ⟨B1, 6, none⟩ = some (.slice oE m cE)) := fun w' h => by
    have h1 := (h.block B1 (by omega)).trans f13
    exact ⟨by simp [World.cell?, h1], by simp [World.cell?, h1], by simp [World.cell?, h1], by simp [World.cell?, h1], by simp [World.cell?, h1], by simp [World.cell?, h1], by simp [World.cell?, h1]⟩
  have HF2 : Hid (∀ w', Below w3.heap.size w3 w' → w'.cell? ⟨B2, 0, none⟩ = some (.slice oa na ca) ∧ w'.cell? ⟨B2, 1, none⟩ = some (.slice ob nb cb) ∧ w'.cell? ⟨B2, 2, none⟩ = some (.slice oc nc cc) ∧ w'.cell? ⟨B2, 3, none⟩ = some (.slice od nd cd)) := fun w' h => by
    have h1 := (h.block B2 (by omega)).trans f23
    exact ⟨by simp [World.cell?, h1], by simp [World.cell?, h1], by simp [World.cell?, h1], by simp [World.cell?, h1]⟩
  have HF3 : Hid (∀ w', Below w3.heap.size w3 w' → w'.heap[B3]? = some (.cells #[.int .i64 0, .int .i64 0, .int .i64 0, .slice none 0 0, .slice none 0 0, .slice none 0 0, .slice none 0 0, .slice none 0 0, .slice none 0 0, .slice none 0 0, .slice none 0 0, .int .i64 0] 65)) := fun w' h => (h.block B3 (by omega)).trans f33
  have HWB : Hid (∀ x, x = B3 → w.heap.size ≤ x) := fun x hx => by omega
  have hbk : ∀ w', Below w3.heap.size w3 w' → Below w.heap.size w w' := fun w' h => bStep HB3.out h
  have HCK : Hid (Calls _ _ _ _ _) := cCheck_any F A I oN oG oL oE n cN g cG l cL m cE f ni nt In Tb T G E hgn hr w3 (hci.below HB3.out)
  have HCO : Hid (∀ w', Below w3.heap.size w3 w' → Calls _ _ _ w' _) := fun w' h => colsFit_f F A I oN oG oL oE oa ob oc od n cN g cG l cL m cE na ca nb cb nc cc nd cd k Fa Fb Fc La Lb Lc Ea Eb Ec ha hb hc w' (hsh.1.below (hbk w' h)) (hsh.2.1.below (hbk w' h)) (hsh.2.2.1.below (hbk w' h))
  have HCP : Hid (∀ w', Below w3.heap.size w3 w' → Calls _ _ _ w' _) := fun w' h => copiesFit_f F A I oN oG oL oE oa ob oc od n cN g cG l cL m cE na ca nb cb nc cc nd cd k P hd w' (hsh.2.2.2.below (hbk w' h))
  obtain ⟨ck, eck⟩ : ∃ x, x = cirE (chkB n T F A I) (rgtB n T F A I g G l ni nt In Tb m E) := ⟨_, rfl⟩
  rw [← eck] at HCK ⊢
  obtain ⟨cf, ecf⟩ : ∃ x, x = (fewB na La F (usN k) && fewB nb Lb A (usN k) && fewB nc Lc I (usN k)) := ⟨_, rfl⟩
  obtain ⟨cp, ecp⟩ : ∃ x, x = copB nd P m k := ⟨_, rfl⟩
  rw [← ecf] at HCO
  rw [← ecp] at HCP
  obtain ⟨fb, efb⟩ : ∃ x, x = (shtB F A I m na nb nc nd La Lb Lc P k) := ⟨_, rfl⟩
  rw [← efb]
  obtain ⟨ek, eek⟩ : ∃ x, x = filE ck k fb := ⟨_, rfl⟩
  rw [← eek]
  have HEK : Hid (ek = filE ck k fb) := eek
  have HFB : Hid (fb = (cf && cp)) := by show fb = _; rw [efb, ecf, ecp]; rfl
  clear eck ecf ecp efb eek hci hsh hgn hr ha hb hc hd hbk f1 f13 f2 f23 f33 hb1 hb2 hb3
  obtain ⟨q0, q1, q2, q3, q4, q5, q6⟩ := HF1.out w3 (Below.refl _ _)
  go_enter Tryz.func44, Tryz.ntmps44
  go_upto_region 1 with fail
  rw [← hw1]
  rw [← hw2]
  rw [← hw3]
  (try rw [← eB3]); (try rw [← eB2]); (try rw [← eB1])
  clear hw1 hw2 hw3 hz1 hz2 hz3 eB1 eB2 eB3
  go_wp2_with fail
  refine Calls.mono HCK.out ?_
  rintro e w4 ⟨rfl, hb4⟩
  clear HCK q0 q1 q2 q3 q4 q5 q6
  by_cases h0 : ck = 0
  · subst h0
    by_cases h3 : k < 3
    · have hE : ek = 60 := HEK.out.trans (by simp [filE, h3])
      have HFP : Hid (FilP (.returned (.tuple #[.agg #[.int .i64 0, .int .i64 0, .int .i64 0, .slice none 0 0, .slice none 0 0, .slice none 0 0, .slice none 0 0, .slice none 0 0, .slice none 0 0, .slice none 0 0, .slice none 0 0, .int .i64 0], .int .i64 60])) ek F A I oN oG oL oE oa ob oc od n cN g cG l cL m cE na ca nb cb nc cc nd cd k) := Or.inr ⟨by rw [hE]; decide, by rw [hE]⟩
      clear hE
      obtain ⟨w8, hw8, f8, hk8, hth⟩ := put_all #[.int .i64 0, .int .i64 0, .int .i64 0, .slice none 0 0, .slice none 0 0, .slice none 0 0, .slice none 0 0, .slice none 0 0, .slice none 0 0, .slice none 0 0, .slice none 0 0, .int .i64 0] (HF3.out w4 hb4) rfl
      have HB8 : Hid (Below w.heap.size w w8) := (bStep HB3.out hb4).trans (hk8.below (bStep HB3.out hb4).size HWB.out)
      have HF8 : Hid (w8.heap[B3]? = some (.cells #[.int .i64 0, .int .i64 0, .int .i64 0, .slice none 0 0, .slice none 0 0, .slice none 0 0, .slice none 0 0, .slice none 0 0, .slice none 0 0, .slice none 0 0, .slice none 0 0, .int .i64 0] 65)) := f8
      have HTH : Hid (w4.there B3 0 12) := hth
      have HW8 : Hid (w4.setCells B3 0 (#[.int .i64 0, .int .i64 0, .int .i64 0, .slice none 0 0, .slice none 0 0, .slice none 0 0, .slice none 0 0, .slice none 0 0, .slice none 0 0, .slice none 0 0, .slice none 0 0, .int .i64 0] : Array Value).toList = w8) := hw8
      clear f8 hk8 hth hw8
      go_wp2_with (first
        | (refine wpList_store_mid rfl 65 _ _ rfl B3 0 #[.int .i64 0, .int .i64 0, .int .i64 0, .slice none 0 0, .slice none 0 0, .slice none 0 0, .slice none 0 0, .slice none 0 0, .slice none 0 0, .slice none 0 0, .slice none 0 0, .int .i64 0] rfl rfl HTH.out flSize oneZ12 ?_; simp only [Act.put])
        | go_in)
      rw [HW8.out]
      go_wp2
      exact bodyPost_ret (v := .tuple #[.agg #[.int .i64 0, .int .i64 0, .int .i64 0, .slice none 0 0, .slice none 0 0, .slice none 0 0, .slice none 0 0, .slice none 0 0, .slice none 0 0, .slice none 0 0, .slice none 0 0, .int .i64 0], .int .i64 60]) (results_fill _ w8 B3 _ _ rfl rfl HF8.out rfl) rfl ⟨HFP.out, HB8.out⟩
    by_cases h5 : 5 < k
    · have hE : ek = 60 := HEK.out.trans (by simp [filE, h5])
      have HFP : Hid (FilP (.returned (.tuple #[.agg #[.int .i64 0, .int .i64 0, .int .i64 0, .slice none 0 0, .slice none 0 0, .slice none 0 0, .slice none 0 0, .slice none 0 0, .slice none 0 0, .slice none 0 0, .slice none 0 0, .int .i64 0], .int .i64 60])) ek F A I oN oG oL oE oa ob oc od n cN g cG l cL m cE na ca nb cb nc cc nd cd k) := Or.inr ⟨by rw [hE]; decide, by rw [hE]⟩
      clear hE
      obtain ⟨w8, hw8, f8, hk8, hth⟩ := put_all #[.int .i64 0, .int .i64 0, .int .i64 0, .slice none 0 0, .slice none 0 0, .slice none 0 0, .slice none 0 0, .slice none 0 0, .slice none 0 0, .slice none 0 0, .slice none 0 0, .int .i64 0] (HF3.out w4 hb4) rfl
      have HB8 : Hid (Below w.heap.size w w8) := (bStep HB3.out hb4).trans (hk8.below (bStep HB3.out hb4).size HWB.out)
      have HF8 : Hid (w8.heap[B3]? = some (.cells #[.int .i64 0, .int .i64 0, .int .i64 0, .slice none 0 0, .slice none 0 0, .slice none 0 0, .slice none 0 0, .slice none 0 0, .slice none 0 0, .slice none 0 0, .slice none 0 0, .int .i64 0] 65)) := f8
      have HTH : Hid (w4.there B3 0 12) := hth
      have HW8 : Hid (w4.setCells B3 0 (#[.int .i64 0, .int .i64 0, .int .i64 0, .slice none 0 0, .slice none 0 0, .slice none 0 0, .slice none 0 0, .slice none 0 0, .slice none 0 0, .slice none 0 0, .slice none 0 0, .int .i64 0] : Array Value).toList = w8) := hw8
      clear f8 hk8 hth hw8
      go_wp2_with (first
        | (refine wpList_store_mid rfl 65 _ _ rfl B3 0 #[.int .i64 0, .int .i64 0, .int .i64 0, .slice none 0 0, .slice none 0 0, .slice none 0 0, .slice none 0 0, .slice none 0 0, .slice none 0 0, .slice none 0 0, .slice none 0 0, .int .i64 0] rfl rfl HTH.out flSize oneZ12 ?_; simp only [Act.put])
        | go_in)
      rw [HW8.out]
      go_wp2
      exact bodyPost_ret (v := .tuple #[.agg #[.int .i64 0, .int .i64 0, .int .i64 0, .slice none 0 0, .slice none 0 0, .slice none 0 0, .slice none 0 0, .slice none 0 0, .slice none 0 0, .slice none 0 0, .slice none 0 0, .int .i64 0], .int .i64 60]) (results_fill _ w8 B3 _ _ rfl rfl HF8.out rfl) rfl ⟨HFP.out, HB8.out⟩
    have HEE : Hid (ek = if fb = false then 130 else 0) := HEK.out.trans (by simp [filE, h3, h5])
    obtain ⟨q0, q1, q2, q3, q4, q5, q6⟩ := HF1.out w4 hb4
    obtain ⟨r0, r1, r2, r3⟩ := HF2.out w4 hb4
    obtain ⟨B4, eB4⟩ : ∃ b, b = w4.heap.size := ⟨_, rfl⟩
    obtain ⟨w5, hw5⟩ : ∃ z : World, z = w4.alloc (.cells #[.int .i64 F, .int .i64 A, .int .i64 I, .slice oN n cN, .slice oG g cG, .slice oL l cL, .slice oE m cE, .slice oa na ca, .slice ob nb cb, .slice oc nc cc, .slice od nd cd, .int .i64 k] 65) := ⟨_, rfl⟩
    have hb5 : Below w4.heap.size w4 w5 := by rw [hw5]; exact bAlloc (Below.refl _ _) _
    have f5 : w5.heap[B4]? = some (.cells #[.int .i64 F, .int .i64 A, .int .i64 I, .slice oN n cN, .slice oG g cG, .slice oL l cL, .slice oE m cE, .slice oa na ca, .slice ob nb cb, .slice oc nc cc, .slice od nd cd, .int .i64 k] 65) := by rw [hw5, eB4]; show (w4.heap.push _)[w4.heap.size]? = _; simp
    have HFF : Hid (∀ w', Below w5.heap.size w5 w' → w'.heap[B4]? = some (.cells #[.int .i64 F, .int .i64 A, .int .i64 I, .slice oN n cN, .slice oG g cG, .slice oL l cL, .slice oE m cE, .slice oa na ca, .slice ob nb cb, .slice oc nc cc, .slice od nd cd, .int .i64 k] 65)) := fun w' h => (h.block B4 (Array.getElem?_eq_some_iff.1 f5).1).trans f5
    have HFC : Hid (∀ w', Below w5.heap.size w5 w' → w'.cell? ⟨B4, 0, none⟩ = some (.int .i64 F) ∧ w'.cell? ⟨B4, 1, none⟩ = some (.int .i64 A) ∧ w'.cell? ⟨B4, 2, none⟩ = some (.int .i64 I) ∧ w'.cell? ⟨B4, 3, none⟩ = some (.slice oN n cN) ∧ w'.cell? ⟨B4, 4, none⟩ = some (.slice oG g cG) ∧ w'.cell? ⟨B4, 5, none⟩ = some (.slice oL l cL) ∧ w'.cell? ⟨B4, 6, none⟩ = some (.slice oE m cE) ∧ w'.cell? ⟨B4, 7, none⟩ = some (.slice oa na ca) ∧ w'.cell? ⟨B4, 8, none⟩ = some (.slice ob nb cb) ∧ w'.cell? ⟨B4, 9, none⟩ = some (.slice oc nc cc) ∧ w'.cell? ⟨B4, 10, none⟩ = some (.slice od nd cd) ∧ w'.cell? ⟨B4, 11, none⟩ = some (.int .i64 k)) := fun w' h => by
      have h1 := HFF.out w' h
      exact ⟨by simp [World.cell?, h1], by simp [World.cell?, h1], by simp [World.cell?, h1], by simp [World.cell?, h1], by simp [World.cell?, h1], by simp [World.cell?, h1], by simp [World.cell?, h1], by simp [World.cell?, h1], by simp [World.cell?, h1], by simp [World.cell?, h1], by simp [World.cell?, h1], by simp [World.cell?, h1]⟩
    have HB5 : Hid (Below w3.heap.size w3 w5) := bStep hb4 hb5
    clear hb4 hb5 f5
    go_upto_region 7 with fail
    rw [← hw5, ← eB4]
    clear hw5 eB4 q0 q1 q2 q3 q4 q5 q6 r0 r1 r2 r3
    obtain ⟨q0, q1, q2, q3, q4, q5, q6, q7, q8, q9, q10, q11⟩ := HFC.out w5 (Below.refl _ _)
    go_wp2_with fail
    refine Calls.mono (HCO.out w5 HB5.out) ?_
    rintro e w6 ⟨rfl, hb6⟩
    have HB6 : Hid (Below w5.heap.size w5 w6) := hb6
    have h36 : Below w3.heap.size w3 w6 := bStep HB5.out hb6
    clear hb6 q0 q1 q2 q3 q4 q5 q6 q7 q8 q9 q10 q11
    cases cf with
    | false =>
      have hE : ek = 130 := HEE.out.trans (by rw [HFB.out]; rfl)
      have HFP : Hid (FilP (.returned (.tuple #[.agg #[.int .i64 0, .int .i64 0, .int .i64 0, .slice none 0 0, .slice none 0 0, .slice none 0 0, .slice none 0 0, .slice none 0 0, .slice none 0 0, .slice none 0 0, .slice none 0 0, .int .i64 0], .int .i64 130])) ek F A I oN oG oL oE oa ob oc od n cN g cG l cL m cE na ca nb cb nc cc nd cd k) := Or.inr ⟨by rw [hE]; decide, by rw [hE]⟩
      clear hE
      obtain ⟨w8, hw8, f8, hk8, hth⟩ := put_all #[.int .i64 0, .int .i64 0, .int .i64 0, .slice none 0 0, .slice none 0 0, .slice none 0 0, .slice none 0 0, .slice none 0 0, .slice none 0 0, .slice none 0 0, .slice none 0 0, .int .i64 0] (HF3.out w6 h36) rfl
      have HB8 : Hid (Below w.heap.size w w8) := (bStep HB3.out h36).trans (hk8.below (bStep HB3.out h36).size HWB.out)
      have HF8 : Hid (w8.heap[B3]? = some (.cells #[.int .i64 0, .int .i64 0, .int .i64 0, .slice none 0 0, .slice none 0 0, .slice none 0 0, .slice none 0 0, .slice none 0 0, .slice none 0 0, .slice none 0 0, .slice none 0 0, .int .i64 0] 65)) := f8
      have HTH : Hid (w6.there B3 0 12) := hth
      have HW8 : Hid (w6.setCells B3 0 (#[.int .i64 0, .int .i64 0, .int .i64 0, .slice none 0 0, .slice none 0 0, .slice none 0 0, .slice none 0 0, .slice none 0 0, .slice none 0 0, .slice none 0 0, .slice none 0 0, .int .i64 0] : Array Value).toList = w8) := hw8
      clear f8 hk8 hth hw8
      go_wp2_with (first
        | (refine wpList_store_mid rfl 65 _ _ rfl B3 0 #[.int .i64 0, .int .i64 0, .int .i64 0, .slice none 0 0, .slice none 0 0, .slice none 0 0, .slice none 0 0, .slice none 0 0, .slice none 0 0, .slice none 0 0, .slice none 0 0, .int .i64 0] rfl rfl HTH.out flSize oneZ12 ?_; simp only [Act.put])
        | go_in)
      rw [HW8.out]
      go_wp2
      exact bodyPost_ret (v := .tuple #[.agg #[.int .i64 0, .int .i64 0, .int .i64 0, .slice none 0 0, .slice none 0 0, .slice none 0 0, .slice none 0 0, .slice none 0 0, .slice none 0 0, .slice none 0 0, .slice none 0 0, .int .i64 0], .int .i64 130]) (results_fill _ w8 B3 _ _ rfl rfl HF8.out rfl) rfl ⟨HFP.out, HB8.out⟩
    | true =>
      have H36 : Hid (Below w3.heap.size w3 w6) := h36
      obtain ⟨q0, q1, q2, q3, q4, q5, q6, q7, q8, q9, q10, q11⟩ := HFC.out w6 HB6.out
      clear h36
      go_wp2_with fail
      refine Calls.mono (HCP.out w6 H36.out) ?_
      rintro e w7 ⟨rfl, hb7⟩
      have HB7 : Hid (Below w5.heap.size w5 w7) := bStep HB6.out hb7
      have h37 : Below w3.heap.size w3 w7 := bStep H36.out hb7
      clear hb7 q0 q1 q2 q3 q4 q5 q6 q7 q8 q9 q10 q11
      cases cp with
      | false =>
        have hE : ek = 130 := HEE.out.trans (by rw [HFB.out]; rfl)
        have HFP : Hid (FilP (.returned (.tuple #[.agg #[.int .i64 0, .int .i64 0, .int .i64 0, .slice none 0 0, .slice none 0 0, .slice none 0 0, .slice none 0 0, .slice none 0 0, .slice none 0 0, .slice none 0 0, .slice none 0 0, .int .i64 0], .int .i64 130])) ek F A I oN oG oL oE oa ob oc od n cN g cG l cL m cE na ca nb cb nc cc nd cd k) := Or.inr ⟨by rw [hE]; decide, by rw [hE]⟩
        clear hE
        obtain ⟨w8, hw8, f8, hk8, hth⟩ := put_all #[.int .i64 0, .int .i64 0, .int .i64 0, .slice none 0 0, .slice none 0 0, .slice none 0 0, .slice none 0 0, .slice none 0 0, .slice none 0 0, .slice none 0 0, .slice none 0 0, .int .i64 0] (HF3.out w7 h37) rfl
        have HB8 : Hid (Below w.heap.size w w8) := (bStep HB3.out h37).trans (hk8.below (bStep HB3.out h37).size HWB.out)
        have HF8 : Hid (w8.heap[B3]? = some (.cells #[.int .i64 0, .int .i64 0, .int .i64 0, .slice none 0 0, .slice none 0 0, .slice none 0 0, .slice none 0 0, .slice none 0 0, .slice none 0 0, .slice none 0 0, .slice none 0 0, .int .i64 0] 65)) := f8
        have HTH : Hid (w7.there B3 0 12) := hth
        have HW8 : Hid (w7.setCells B3 0 (#[.int .i64 0, .int .i64 0, .int .i64 0, .slice none 0 0, .slice none 0 0, .slice none 0 0, .slice none 0 0, .slice none 0 0, .slice none 0 0, .slice none 0 0, .slice none 0 0, .int .i64 0] : Array Value).toList = w8) := hw8
        clear f8 hk8 hth hw8
        go_wp2_with (first
          | (refine wpList_store_mid rfl 65 _ _ rfl B3 0 #[.int .i64 0, .int .i64 0, .int .i64 0, .slice none 0 0, .slice none 0 0, .slice none 0 0, .slice none 0 0, .slice none 0 0, .slice none 0 0, .slice none 0 0, .slice none 0 0, .int .i64 0] rfl rfl HTH.out flSize oneZ12 ?_; simp only [Act.put])
          | go_in)
        rw [HW8.out]
        go_wp2
        exact bodyPost_ret (v := .tuple #[.agg #[.int .i64 0, .int .i64 0, .int .i64 0, .slice none 0 0, .slice none 0 0, .slice none 0 0, .slice none 0 0, .slice none 0 0, .slice none 0 0, .slice none 0 0, .slice none 0 0, .int .i64 0], .int .i64 130]) (results_fill _ w8 B3 _ _ rfl rfl HF8.out rfl) rfl ⟨HFP.out, HB8.out⟩
      | true =>
        have hE : ek = 0 := HEE.out.trans (by rw [HFB.out]; rfl)
        have HFP : Hid (FilP (.returned (.tuple #[.agg #[.int .i64 F, .int .i64 A, .int .i64 I, .slice oN n cN, .slice oG g cG, .slice oL l cL, .slice oE m cE, .slice oa na ca, .slice ob nb cb, .slice oc nc cc, .slice od nd cd, .int .i64 k], .int .i64 0])) ek F A I oN oG oL oE oa ob oc od n cN g cG l cL m cE na ca nb cb nc cc nd cd k) := Or.inl ⟨hE, rfl⟩
        clear hE
        obtain ⟨w8, hw8, f8, hk8, hth⟩ := put_all #[.int .i64 F, .int .i64 A, .int .i64 I, .slice oN n cN, .slice oG g cG, .slice oL l cL, .slice oE m cE, .slice oa na ca, .slice ob nb cb, .slice oc nc cc, .slice od nd cd, .int .i64 k] (HF3.out w7 h37) rfl
        have HB8 : Hid (Below w.heap.size w w8) := (bStep HB3.out h37).trans (hk8.below (bStep HB3.out h37).size HWB.out)
        have HF8 : Hid (w8.heap[B3]? = some (.cells #[.int .i64 F, .int .i64 A, .int .i64 I, .slice oN n cN, .slice oG g cG, .slice oL l cL, .slice oE m cE, .slice oa na ca, .slice ob nb cb, .slice oc nc cc, .slice od nd cd, .int .i64 k] 65)) := f8
        have HTH : Hid (w7.there B3 0 12) := hth
        have HW8 : Hid (w7.setCells B3 0 (#[.int .i64 F, .int .i64 A, .int .i64 I, .slice oN n cN, .slice oG g cG, .slice oL l cL, .slice oE m cE, .slice oa na ca, .slice ob nb cb, .slice oc nc cc, .slice od nd cd, .int .i64 k] : Array Value).toList = w8) := hw8
        clear f8 hk8 hth hw8
        go_wp2_with (first
          | (refine wpList_load_row rfl 65 _ rfl B4 rfl 65 #[.int .i64 F, .int .i64 A, .int .i64 I, .slice oN n cN, .slice oG g cG, .slice oL l cL, .slice oE m cE, .slice oa na ca, .slice ob nb cb, .slice oc nc cc, .slice od nd cd, .int .i64 k] (0, 0) _ (HFF.out w7 HB7.out) flUnd rfl flSize ?_; simp only [Act.put])
          | (refine wpList_store_mid rfl 65 _ _ rfl B3 0 #[.int .i64 F, .int .i64 A, .int .i64 I, .slice oN n cN, .slice oG g cG, .slice oL l cL, .slice oE m cE, .slice oa na ca, .slice ob nb cb, .slice oc nc cc, .slice od nd cd, .int .i64 k] rfl rfl HTH.out flSize (one12 F A I oN oG oL oE oa ob oc od n cN g cG l cL m cE na ca nb cb nc cc nd cd k) ?_; simp only [Act.put])
          | go_in)
        rw [HW8.out]
        go_wp2
        exact bodyPost_ret (v := .tuple #[.agg #[.int .i64 F, .int .i64 A, .int .i64 I, .slice oN n cN, .slice oG g cG, .slice oL l cL, .slice oE m cE, .slice oa na ca, .slice ob nb cb, .slice oc nc cc, .slice od nd cd, .int .i64 k], .int .i64 0]) (results_fill _ w8 B3 _ _ rfl rfl HF8.out rfl) rfl ⟨HFP.out, HB8.out⟩
  · have hE : ek = ck := HEK.out.trans (by simp [filE, h0])
    have HFP : Hid (FilP (.returned (.tuple #[.agg #[.int .i64 0, .int .i64 0, .int .i64 0, .slice none 0 0, .slice none 0 0, .slice none 0 0, .slice none 0 0, .slice none 0 0, .slice none 0 0, .slice none 0 0, .slice none 0 0, .int .i64 0], .int .i64 ck])) ek F A I oN oG oL oE oa ob oc od n cN g cG l cL m cE na ca nb cb nc cc nd cd k) := Or.inr ⟨by rw [hE]; exact h0, by rw [hE]⟩
    clear hE
    obtain ⟨w8, hw8, f8, hk8, hth⟩ := put_all #[.int .i64 0, .int .i64 0, .int .i64 0, .slice none 0 0, .slice none 0 0, .slice none 0 0, .slice none 0 0, .slice none 0 0, .slice none 0 0, .slice none 0 0, .slice none 0 0, .int .i64 0] (HF3.out w4 hb4) rfl
    have HB8 : Hid (Below w.heap.size w w8) := (bStep HB3.out hb4).trans (hk8.below (bStep HB3.out hb4).size HWB.out)
    have HF8 : Hid (w8.heap[B3]? = some (.cells #[.int .i64 0, .int .i64 0, .int .i64 0, .slice none 0 0, .slice none 0 0, .slice none 0 0, .slice none 0 0, .slice none 0 0, .slice none 0 0, .slice none 0 0, .slice none 0 0, .int .i64 0] 65)) := f8
    have HTH : Hid (w4.there B3 0 12) := hth
    have HW8 : Hid (w4.setCells B3 0 (#[.int .i64 0, .int .i64 0, .int .i64 0, .slice none 0 0, .slice none 0 0, .slice none 0 0, .slice none 0 0, .slice none 0 0, .slice none 0 0, .slice none 0 0, .slice none 0 0, .int .i64 0] : Array Value).toList = w8) := hw8
    clear f8 hk8 hth hw8
    go_wp2_with (first
      | (refine wpList_store_mid rfl 65 _ _ rfl B3 0 #[.int .i64 0, .int .i64 0, .int .i64 0, .slice none 0 0, .slice none 0 0, .slice none 0 0, .slice none 0 0, .slice none 0 0, .slice none 0 0, .slice none 0 0, .slice none 0 0, .int .i64 0] rfl rfl HTH.out flSize oneZ12 ?_; simp only [Act.put])
      | go_in)
    rw [HW8.out]
    go_wp2
    exact bodyPost_ret (v := .tuple #[.agg #[.int .i64 0, .int .i64 0, .int .i64 0, .slice none 0 0, .slice none 0 0, .slice none 0 0, .slice none 0 0, .slice none 0 0, .slice none 0 0, .slice none 0 0, .slice none 0 0, .int .i64 0], .int .i64 ck]) (results_fill _ w8 B3 _ _ rfl rfl HF8.out rfl) rfl ⟨HFP.out, HB8.out⟩
end Go.Proofs.YtgldibfpidmfhaaGreatDoor

/- sheet.fillOver, sheet.Fit. -/
namespace Go.Proofs.YtgldibfpidmfhaaGreatDoor
open Go.RowKit
theorem results_over (tmps : Array Value) (w : World) (g : Nat) (cs : Array Value) (e : Value) (h2 : tmps.getD 8 undef = .pointer (some ⟨g, 0, none⟩)) (h3 : tmps.getD 9 undef = e) (hg : w.heap[g]? = some (.cells cs 65)) (hs : cs.size = 12) :
    (results Tryz.f22 tmps).run Tryz.prog w = .ok (.tuple #[.agg cs, e]) w := by
  have h2' : tmps[8]?.getD undef = .pointer (some ⟨g, 0, none⟩) := by simpa using h2
  have h3' : tmps[9]?.getD undef = e := by simpa using h3
  simp [results, h2', h3', asAddr, run_loadVar_row w g 65 65 cs (0, 0) _ hg flUnd rfl (by rw [hs]; exact flSize)]
set_option maxHeartbeats 4000000 in
set_option maxRecDepth 100000 in
theorem over_out (s : Int) (hs : s < 0 ∨ 4 ≤ s) (F A I : Int) (oN oG oL oE oa ob oc od : Option Addr) (n cN g cG l cL m cE na ca nb cb nc cc nd cd : Nat) (k : Int) (w : World) :
    Calls Tryz.prog 22 #[.int .i64 s, .agg #[.int .i64 F, .int .i64 A, .int .i64 I, .slice oN n cN, .slice oG g cG, .slice oL l cL, .slice oE m cE], .int .i64 k, .agg #[.slice oa na ca, .slice ob nb cb, .slice oc nc cc, .slice od nd cd]] w fun e w' => FilP e 20 F A I oN oG oL oE oa ob oc od n cN g cG l cL m cE na ca nb cb nc cc nd cd k ∧ Below w.heap.size w w' := by
  obtain ⟨B1, eB1⟩ : ∃ b, b = w.heap.size := ⟨_, rfl⟩
  obtain ⟨B2, eB2⟩ : ∃ b, b = w.heap.size + 1 := ⟨_, rfl⟩
  obtain ⟨B3, eB3⟩ : ∃ b, b = w.heap.size + 1 + 1 := ⟨_, rfl⟩
  obtain ⟨w1, hw1⟩ : ∃ z : World, z = w.alloc (.cells #[.int .i64 F, .int .i64 A, .int .i64 I, .slice oN n cN, .slice oG g cG, .slice oL l cL, .slice oE m cE] 27) := ⟨_, rfl⟩
  have hz1 : w1.heap.size = w.heap.size + 1 := by rw [hw1]; simp
  obtain ⟨w2, hw2⟩ : ∃ z : World, z = w1.alloc (.cells #[.slice oa na ca, .slice ob nb cb, .slice oc nc cc, .slice od nd cd] 31) := ⟨_, rfl⟩
  have hz2 : w2.heap.size = w.heap.size + 1 + 1 := by rw [hw2]; simp [hz1]
  obtain ⟨w3, hw3⟩ : ∃ z : World, z = w2.alloc (.cells #[.int .i64 0, .int .i64 0, .int .i64 0, .slice none 0 0, .slice none 0 0, .slice none 0 0, .slice none 0 0, .slice none 0 0, .slice none 0 0, .slice none 0 0, .slice none 0 0, .int .i64 0] 65) := ⟨_, rfl⟩
  have hz3 : w3.heap.size = w.heap.size + 1 + 1 + 1 := by rw [hw3]; simp [hz2]
  have hb1 : Below w.heap.size w w1 := by rw [hw1]; exact bAlloc (Below.refl _ _) _
  have hb2 : Below w1.heap.size w1 w2 := by rw [hw2]; exact bAlloc (Below.refl _ _) _
  have hb3 : Below w2.heap.size w2 w3 := by rw [hw3]; exact bAlloc (Below.refl _ _) _
  have f1 : w1.heap[B1]? = some (.cells #[.int .i64 F, .int .i64 A, .int .i64 I, .slice oN n cN, .slice oG g cG, .slice oL l cL, .slice oE m cE] 27) := by rw [hw1, eB1]; show (w.heap.push _)[w.heap.size]? = _; simp
  have f13 := (hb3.block B1 (by omega)).trans ((hb2.block B1 (by omega)).trans f1)
  have f2 : w2.heap[B2]? = some (.cells #[.slice oa na ca, .slice ob nb cb, .slice oc nc cc, .slice od nd cd] 31) := by rw [hw2, eB2, ← hz1]; show (w1.heap.push _)[w1.heap.size]? = _; simp
  have f23 := (hb3.block B2 (by omega)).trans f2
  have f33 : w3.heap[B3]? = some (.cells #[.int .i64 0, .int .i64 0, .int .i64 0, .slice none 0 0, .slice none 0 0, .slice none 0 0, .slice none 0 0, .slice none 0 0, .slice none 0 0, .slice none 0 0, .slice none 0 0, .int .i64 0] 65) := by rw [hw3, eB3, ← hz2]; show (w2.heap.push _)[w2.heap.size]? = _; simp
  have HB3 : Hid (Below w.heap.size w w3) := bStep (bStep hb1 hb2) hb3
  have HF1 : Hid (∀ w', Below w3.heap.size w3 w' → w'.cell? ⟨B1, 0, none⟩ = some (.int .i64 F) ∧ w'.cell? ⟨B1, 1, none⟩ = some (.int .i64 A) ∧ w'.cell? ⟨B1, 2, none⟩ = some (.int .i64 I) ∧ w'.cell? ⟨B1, 3, none⟩ = some (.slice oN n cN) ∧ w'.cell? ⟨B1, 4, none⟩ = some (.slice oG g cG) ∧ w'.cell? ⟨B1, 5, none⟩ = some (.slice oL l cL) ∧ w'.cell? ⟨B1, 6, none⟩ = some (.slice oE m cE)) := fun w' h => by
    have h1 := (h.block B1 (by omega)).trans f13
    exact ⟨by simp [World.cell?, h1], by simp [World.cell?, h1], by simp [World.cell?, h1], by simp [World.cell?, h1], by simp [World.cell?, h1], by simp [World.cell?, h1], by simp [World.cell?, h1]⟩
  have HF2 : Hid (∀ w', Below w3.heap.size w3 w' → w'.cell? ⟨B2, 0, none⟩ = some (.slice oa na ca) ∧ w'.cell? ⟨B2, 1, none⟩ = some (.slice ob nb cb) ∧ w'.cell? ⟨B2, 2, none⟩ = some (.slice oc nc cc) ∧ w'.cell? ⟨B2, 3, none⟩ = some (.slice od nd cd)) := fun w' h => by
    have h1 := (h.block B2 (by omega)).trans f23
    exact ⟨by simp [World.cell?, h1], by simp [World.cell?, h1], by simp [World.cell?, h1], by simp [World.cell?, h1]⟩
  have HF3 : Hid (∀ w', Below w3.heap.size w3 w' → w'.heap[B3]? = some (.cells #[.int .i64 0, .int .i64 0, .int .i64 0, .slice none 0 0, .slice none 0 0, .slice none 0 0, .slice none 0 0, .slice none 0 0, .slice none 0 0, .slice none 0 0, .slice none 0 0, .int .i64 0] 65)) := fun w' h => (h.block B3 (by omega)).trans f33
  have HWB : Hid (∀ x, x = B3 → w.heap.size ≤ x) := fun x hx => by omega
  have HM : Hid (Calls _ _ _ _ _) := fModulus_out s hs w3
  have HFP : Hid (FilP (.returned (.tuple #[.agg #[.int .i64 0, .int .i64 0, .int .i64 0, .slice none 0 0, .slice none 0 0, .slice none 0 0, .slice none 0 0, .slice none 0 0, .slice none 0 0, .slice none 0 0, .slice none 0 0, .int .i64 0], .int .i64 20])) 20 F A I oN oG oL oE oa ob oc od n cN g cG l cL m cE na ca nb cb nc cc nd cd k) := Or.inr ⟨by decide, rfl⟩
  clear hs f1 f13 f2 f23 f33 hb1 hb2 hb3
  go_enter Tryz.func22, Tryz.ntmps22
  go_upto_region 1 with fail
  rw [← hw1]
  rw [← hw2]
  rw [← hw3]
  (try rw [← eB3]); (try rw [← eB2]); (try rw [← eB1])
  clear hw1 hw2 hw3 hz1 hz2 hz3 eB1 eB2 eB3
  go_wp2_with fail
  refine Calls.mono HM.out ?_
  rintro e w4 ⟨rfl, hb4⟩
  clear HM
  obtain ⟨w5, hw5⟩ : ∃ z : World, z = w4.alloc (.cells #[.int .u64 0, .int .u64 0, .int .u64 0, .int .u64 0] 50) := ⟨_, rfl⟩
  have h5 : Below w3.heap.size w3 w5 := by rw [hw5]; exact bAlloc hb4 _
  clear hb4
  go_upto_region 3 with fail
  rw [← hw5]
  clear hw5
  obtain ⟨w8, hw8, f8, hk8, hth⟩ := put_all #[.int .i64 0, .int .i64 0, .int .i64 0, .slice none 0 0, .slice none 0 0, .slice none 0 0, .slice none 0 0, .slice none 0 0, .slice none 0 0, .slice none 0 0, .slice none 0 0, .int .i64 0] (HF3.out w5 h5) rfl
  have HB8 : Hid (Below w.heap.size w w8) := (bStep HB3.out h5).trans (hk8.below (bStep HB3.out h5).size HWB.out)
  have HF8 : Hid (w8.heap[B3]? = some (.cells #[.int .i64 0, .int .i64 0, .int .i64 0, .slice none 0 0, .slice none 0 0, .slice none 0 0, .slice none 0 0, .slice none 0 0, .slice none 0 0, .slice none 0 0, .slice none 0 0, .int .i64 0] 65)) := f8
  have HTH : Hid (w5.there B3 0 12) := hth
  have HW8 : Hid (w5.setCells B3 0 (#[.int .i64 0, .int .i64 0, .int .i64 0, .slice none 0 0, .slice none 0 0, .slice none 0 0, .slice none 0 0, .slice none 0 0, .slice none 0 0, .slice none 0 0, .slice none 0 0, .int .i64 0] : Array Value).toList = w8) := hw8
  clear f8 hk8 hth hw8
  go_wp2_with (first
    | (refine wpList_store_mid rfl 65 _ _ rfl B3 0 #[.int .i64 0, .int .i64 0, .int .i64 0, .slice none 0 0, .slice none 0 0, .slice none 0 0, .slice none 0 0, .slice none 0 0, .slice none 0 0, .slice none 0 0, .slice none 0 0, .int .i64 0] rfl rfl HTH.out flSize oneZ12 ?_; simp only [Act.put])
    | go_in)
  rw [HW8.out]
  go_wp2
  exact bodyPost_ret (v := .tuple #[.agg #[.int .i64 0, .int .i64 0, .int .i64 0, .slice none 0 0, .slice none 0 0, .slice none 0 0, .slice none 0 0, .slice none 0 0, .slice none 0 0, .slice none 0 0, .slice none 0 0, .int .i64 0], .int .i64 20]) (results_over _ w8 B3 _ _ rfl rfl HF8.out rfl) rfl ⟨HFP.out, HB8.out⟩
set_option maxHeartbeats 4000000 in
set_option maxRecDepth 100000 in
theorem over_in (s : Nat) (hs : s < 4) (F A I : Int) (oN oG oL oE oa ob oc od : Option Addr) (n cN g cG l cL m cE na ca nb cb nc cc nd cd : Nat) (k : Int) (f : Nat → Value × Value) (ni nt : Nat → Nat) (In Tb : Nat → Nat → Int) (T : Nat → Int × Int × Int × Nat) (G : Nat → Int) (E : Nat → Int × Int) (Fa Fb Fc : Nat → Value) (La Lb Lc : Nat → Nat) (Ea Eb Ec : Nat → Nat → Nat) (P : Nat → Int × Int × Int × Int) (hgn : g ≤ 100000000000000) (hr : Rng F A I m E) (ha : na ≤ 1000000) (hb : nb ≤ 1000000) (hc : nc ≤ 1000000) (hd : nd ≤ 1000000) (w : World) (hg : Glob w) (hci : Cir w (.slice oN n cN) (.slice oG g cG) (.slice oL l cL) (.slice oE m cE) n T g G l f ni nt In Tb m E) (hsh : ShQ w (.slice oa na ca) (.slice ob nb cb) (.slice oc nc cc) (.slice od nd cd) na Fa La Ea nb Fb Lb Eb nc Fc Lc Ec nd P) :
    Calls Tryz.prog 22 #[.int .i64 (s : Int), .agg #[.int .i64 F, .int .i64 A, .int .i64 I, .slice oN n cN, .slice oG g cG, .slice oL l cL, .slice oE m cE], .int .i64 k, .agg #[.slice oa na ca, .slice ob nb cb, .slice oc nc cc, .slice od nd cd]] w fun e w' => FilP e (filE (cirE (chkB n T F A I) (rgtB n T F A I g G l ni nt In Tb m E)) k (shtB F A I m na nb nc nd La Lb Lc P k)) F A I oN oG oL oE oa ob oc od n cN g cG l cL m cE na ca nb cb nc cc nd cd k ∧ Below w.heap.size w w' := by
  obtain ⟨B1, eB1⟩ : ∃ b, b = w.heap.size := ⟨_, rfl⟩
  obtain ⟨B2, eB2⟩ : ∃ b, b = w.heap.size + 1 := ⟨_, rfl⟩
  obtain ⟨B3, eB3⟩ : ∃ b, b = w.heap.size + 1 + 1 := ⟨_, rfl⟩
  obtain ⟨w1, hw1⟩ : ∃ z : World, z = w.alloc (.cells #[.int .i64 F, .int .i64 A, .int .i64 I, .slice oN n cN, .slice oG g cG, .slice oL l cL, .slice oE m cE] 27) := ⟨_, rfl⟩
  have hz1 : w1.heap.size = w.heap.size + 1 := by rw [hw1]; simp
  obtain ⟨w2, hw2⟩ : ∃ z : World, z = w1.alloc (.cells #[.slice oa na ca, .slice ob nb cb, .slice oc nc cc, .slice od nd cd] 31) := ⟨_, rfl⟩
  have hz2 : w2.heap.size = w.heap.size + 1 + 1 := by rw [hw2]; simp [hz1]
  obtain ⟨w3, hw3⟩ : ∃ z : World, z = w2.alloc (.cells #[.int .i64 0, .int .i64 0, .int .i64 0, .slice none 0 0, .slice none 0 0, .slice none 0 0, .slice none 0 0, .slice none 0 0, .slice none 0 0, .slice none 0 0, .slice none 0 0, .int .i64 0] 65) := ⟨_, rfl⟩
  have hz3 : w3.heap.size = w.heap.size + 1 + 1 + 1 := by rw [hw3]; simp [hz2]
  have hb1 : Below w.heap.size w w1 := by rw [hw1]; exact bAlloc (Below.refl _ _) _
  have hb2 : Below w1.heap.size w1 w2 := by rw [hw2]; exact bAlloc (Below.refl _ _) _
  have hb3 : Below w2.heap.size w2 w3 := by rw [hw3]; exact bAlloc (Below.refl _ _) _
  have f1 : w1.heap[B1]? = some (.cells #[.int .i64 F, .int .i64 A, .int .i64 I, .slice oN n cN, .slice oG g cG, .slice oL l cL, .slice oE m cE] 27) := by rw [hw1, eB1]; show (w.heap.push _)[w.heap.size]? = _; simp
  have f13 := (hb3.block B1 (by omega)).trans ((hb2.block B1 (by omega)).trans f1)
  have f2 : w2.heap[B2]? = some (.cells #[.slice oa na ca, .slice ob nb cb, .slice oc nc cc, .slice od nd cd] 31) := by rw [hw2, eB2, ← hz1]; show (w1.heap.push _)[w1.heap.size]? = _; simp
  have f23 := (hb3.block B2 (by omega)).trans f2
  have f33 : w3.heap[B3]? = some (.cells #[.int .i64 0, .int .i64 0, .int .i64 0, .slice none 0 0, .slice none 0 0, .slice none 0 0, .slice none 0 0, .slice none 0 0, .slice none 0 0, .slice none 0 0, .slice none 0 0, .int .i64 0] 65) := by rw [hw3, eB3, ← hz2]; show (w2.heap.push _)[w2.heap.size]? = _; simp
  have HB3 : Hid (Below w.heap.size w w3) := bStep (bStep hb1 hb2) hb3
  have HF1 : Hid (∀ w', Below w3.heap.size w3 w' → w'.cell? ⟨B1, 0, none⟩ = some (.int .i64 F) ∧ w'.cell? ⟨B1, 1, none⟩ = some (.int .i64 A) ∧ w'.cell? ⟨B1, 2, none⟩ = some (.int .i64 I) ∧ w'.cell? ⟨B1, 3, none⟩ = some (.slice oN n cN) ∧ w'.cell? ⟨B1, 4, none⟩ = some (.slice oG g cG) ∧ w'.cell? ⟨B1, 5, none⟩ = some (.slice oL l cL) ∧ w'.cell? ⟨B1, 6, none⟩ = some (.slice oE m cE)) := fun w' h => by
    have h1 := (h.block B1 (by omega)).trans f13
    exact ⟨by simp [World.cell?, h1], by simp [World.cell?, h1], by simp [World.cell?, h1], by simp [World.cell?, h1], by simp [World.cell?, h1], by simp [World.cell?, h1], by simp [World.cell?, h1]⟩
  have HF2 : Hid (∀ w', Below w3.heap.size w3 w' → w'.cell? ⟨B2, 0, none⟩ = some (.slice oa na ca) ∧ w'.cell? ⟨B2, 1, none⟩ = some (.slice ob nb cb) ∧ w'.cell? ⟨B2, 2, none⟩ = some (.slice oc nc cc) ∧ w'.cell? ⟨B2, 3, none⟩ = some (.slice od nd cd)) := fun w' h => by
    have h1 := (h.block B2 (by omega)).trans f23
    exact ⟨by simp [World.cell?, h1], by simp [World.cell?, h1], by simp [World.cell?, h1], by simp [World.cell?, h1]⟩
  have HF3 : Hid (∀ w', Below w3.heap.size w3 w' → w'.heap[B3]? = some (.cells #[.int .i64 0, .int .i64 0, .int .i64 0, .slice none 0 0, .slice none 0 0, .slice none 0 0, .slice none 0 0, .slice none 0 0, .slice none 0 0, .slice none 0 0, .slice none 0 0, .int .i64 0] 65)) := fun w' h => (h.block B3 (by omega)).trans f33
  have HWB : Hid (∀ x, x = B3 → w.heap.size ≤ x) := fun x hx => by omega
  have HM : Hid (Calls _ _ _ _ _) := fModulus_any s hs w3 (hg.below HB3.out)
  have HFI : Hid (∀ w', Below w3.heap.size w3 w' → Calls _ _ _ w' _) := fun w' h => fill_any F A I oN oG oL oE oa ob oc od n cN g cG l cL m cE na ca nb cb nc cc nd cd k f ni nt In Tb T G E Fa Fb Fc La Lb Lc Ea Eb Ec P hgn hr ha hb hc hd w' (hci.below (bStep HB3.out h)) (hsh.below (bStep HB3.out h))
  obtain ⟨ek, eek⟩ : ∃ x, x = filE (cirE (chkB n T F A I) (rgtB n T F A I g G l ni nt In Tb m E)) k (shtB F A I m na nb nc nd La Lb Lc P k) := ⟨_, rfl⟩
  rw [← eek] at HFI ⊢
  obtain ⟨mo, emo⟩ : ∃ x, x = modN s := ⟨_, rfl⟩
  rw [← emo] at HM
  clear eek emo hs hg hci hsh hgn hr ha hb hc hd f1 f13 f2 f23 f33 hb1 hb2 hb3
  go_enter Tryz.func22, Tryz.ntmps22
  go_upto_region 1 with fail
  rw [← hw1]
  rw [← hw2]
  rw [← hw3]
  (try rw [← eB3]); (try rw [← eB2]); (try rw [← eB1])
  clear hw1 hw2 hw3 hz1 hz2 hz3 eB1 eB2 eB3
  go_wp2_with fail
  refine Calls.mono HM.out ?_
  rintro e w4 ⟨rfl, hb4⟩
  clear HM
  obtain ⟨w5, hw5⟩ : ∃ z : World, z = w4.alloc (.cells #[.int .u64 ((limb 0 (mo) : Nat) : Int), .int .u64 ((limb 1 (mo) : Nat) : Int), .int .u64 ((limb 2 (mo) : Nat) : Int), .int .u64 ((limb 3 (mo) : Nat) : Int)] 50) := ⟨_, rfl⟩
  have h5 : Below w3.heap.size w3 w5 := by rw [hw5]; exact bAlloc hb4 _
  have HB5 : Hid (Below w3.heap.size w3 w5) := h5
  clear hb4 h5
  go_upto_region 4 with fail
  rw [← hw5]
  clear hw5
  obtain ⟨q0, q1, q2, q3, q4, q5, q6⟩ := HF1.out w5 HB5.out
  obtain ⟨r0, r1, r2, r3⟩ := HF2.out w5 HB5.out
  go_wp2_with fail
  refine Calls.mono (HFI.out w5 HB5.out) ?_
  rintro e w6 ⟨hfp, hb6⟩
  have h6 : Below w3.heap.size w3 w6 := bStep HB5.out hb6
  clear hb6 q0 q1 q2 q3 q4 q5 q6 r0 r1 r2 r3
  rcases hfp with ⟨h0, rfl⟩ | ⟨h0, rfl⟩
  · have HFP : Hid (FilP (.returned (.tuple #[.agg #[.int .i64 F, .int .i64 A, .int .i64 I, .slice oN n cN, .slice oG g cG, .slice oL l cL, .slice oE m cE, .slice oa na ca, .slice ob nb cb, .slice oc nc cc, .slice od nd cd, .int .i64 k], .int .i64 0])) ek F A I oN oG oL oE oa ob oc od n cN g cG l cL m cE na ca nb cb nc cc nd cd k) := Or.inl ⟨h0, rfl⟩
    clear h0
    obtain ⟨w8, hw8, f8, hk8, hth⟩ := put_all #[.int .i64 F, .int .i64 A, .int .i64 I, .slice oN n cN, .slice oG g cG, .slice oL l cL, .slice oE m cE, .slice oa na ca, .slice ob nb cb, .slice oc nc cc, .slice od nd cd, .int .i64 k] (HF3.out w6 h6) rfl
    have HB8 : Hid (Below w.heap.size w w8) := (bStep HB3.out h6).trans (hk8.below (bStep HB3.out h6).size HWB.out)
    have HF8 : Hid (w8.heap[B3]? = some (.cells #[.int .i64 F, .int .i64 A, .int .i64 I, .slice oN n cN, .slice oG g cG, .slice oL l cL, .slice oE m cE, .slice oa na ca, .slice ob nb cb, .slice oc nc cc, .slice od nd cd, .int .i64 k] 65)) := f8
    have HTH : Hid (w6.there B3 0 12) := hth
    have HW8 : Hid (w6.setCells B3 0 (#[.int .i64 F, .int .i64 A, .int .i64 I, .slice oN n cN, .slice oG g cG, .slice oL l cL, .slice oE m cE, .slice oa na ca, .slice ob nb cb, .slice oc nc cc, .slice od nd cd, .int .i64 k] : Array Value).toList = w8) := hw8
    clear f8 hk8 hth hw8
    go_wp2_with (first
      | (refine wpList_store_mid rfl 65 _ _ rfl B3 0 #[.int .i64 F, .int .i64 A, .int .i64 I, .slice oN n cN, .slice oG g cG, .slice oL l cL, .slice oE m cE, .slice oa na ca, .slice ob nb cb, .slice oc nc cc, .slice od nd cd, .int .i64 k] rfl rfl HTH.out flSize (one12 F A I oN oG oL oE oa ob oc od n cN g cG l cL m cE na ca nb cb nc cc nd cd k) ?_; simp only [Act.put])
      | go_in)
    rw [HW8.out]
    go_wp2
    exact bodyPost_ret (v := .tuple #[.agg #[.int .i64 F, .int .i64 A, .int .i64 I, .slice oN n cN, .slice oG g cG, .slice oL l cL, .slice oE m cE, .slice oa na ca, .slice ob nb cb, .slice oc nc cc, .slice od nd cd, .int .i64 k], .int .i64 0]) (results_over _ w8 B3 _ _ rfl rfl HF8.out rfl) rfl ⟨HFP.out, HB8.out⟩
  · have HFP : Hid (FilP (.returned (.tuple #[.agg #[.int .i64 0, .int .i64 0, .int .i64 0, .slice none 0 0, .slice none 0 0, .slice none 0 0, .slice none 0 0, .slice none 0 0, .slice none 0 0, .slice none 0 0, .slice none 0 0, .int .i64 0], .int .i64 ek])) ek F A I oN oG oL oE oa ob oc od n cN g cG l cL m cE na ca nb cb nc cc nd cd k) := Or.inr ⟨h0, rfl⟩
    clear h0
    obtain ⟨w8, hw8, f8, hk8, hth⟩ := put_all #[.int .i64 0, .int .i64 0, .int .i64 0, .slice none 0 0, .slice none 0 0, .slice none 0 0, .slice none 0 0, .slice none 0 0, .slice none 0 0, .slice none 0 0, .slice none 0 0, .int .i64 0] (HF3.out w6 h6) rfl
    have HB8 : Hid (Below w.heap.size w w8) := (bStep HB3.out h6).trans (hk8.below (bStep HB3.out h6).size HWB.out)
    have HF8 : Hid (w8.heap[B3]? = some (.cells #[.int .i64 0, .int .i64 0, .int .i64 0, .slice none 0 0, .slice none 0 0, .slice none 0 0, .slice none 0 0, .slice none 0 0, .slice none 0 0, .slice none 0 0, .slice none 0 0, .int .i64 0] 65)) := f8
    have HTH : Hid (w6.there B3 0 12) := hth
    have HW8 : Hid (w6.setCells B3 0 (#[.int .i64 0, .int .i64 0, .int .i64 0, .slice none 0 0, .slice none 0 0, .slice none 0 0, .slice none 0 0, .slice none 0 0, .slice none 0 0, .slice none 0 0, .slice none 0 0, .int .i64 0] : Array Value).toList = w8) := hw8
    clear f8 hk8 hth hw8
    go_wp2_with (first
      | (refine wpList_store_mid rfl 65 _ _ rfl B3 0 #[.int .i64 0, .int .i64 0, .int .i64 0, .slice none 0 0, .slice none 0 0, .slice none 0 0, .slice none 0 0, .slice none 0 0, .slice none 0 0, .slice none 0 0, .slice none 0 0, .int .i64 0] rfl rfl HTH.out flSize oneZ12 ?_; simp only [Act.put])
      | go_in)
    rw [HW8.out]
    go_wp2
    exact bodyPost_ret (v := .tuple #[.agg #[.int .i64 0, .int .i64 0, .int .i64 0, .slice none 0 0, .slice none 0 0, .slice none 0 0, .slice none 0 0, .slice none 0 0, .slice none 0 0, .slice none 0 0, .slice none 0 0, .int .i64 0], .int .i64 ek]) (results_over _ w8 B3 _ _ rfl rfl HF8.out rfl) rfl ⟨HFP.out, HB8.out⟩
end Go.Proofs.YtgldibfpidmfhaaGreatDoor

