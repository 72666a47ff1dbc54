/- SheetParts' walk. -/
import Derived.Test.YtgkfjpbgdhmhmaaGreatDoorUSS
import Derived.Test.YtgkfjpbgdhmhmaaGreatDoorUSHL
namespace Go.Proofs.YtgkfjpbgdhmhmaaGreatDoor
open Go.RowKit
/-- What Faults answers, whatever it is handed. -/
def FauX (e : Ending) (w w' : World) (ek : Int) (xs : List (Int × Int × Int)) : Prop := ∃ o N c, e = .returned (.tuple #[.slice o N c, .int .i64 ek]) ∧ (ek = 0 → FlO w' (.slice o N c) w.heap.size xs ∧ N = xs.length)
def fekB (s ck k : Int) (fb : Bool) : Int := if s < 0 ∨ 3 < s then 20 else filE ck k fb
theorem fek_zero {s ck k : Int} {fb : Bool} (h : fekB s ck k fb = 0) : (0 ≤ s ∧ s ≤ 3) ∧ ck = 0 ∧ (3 ≤ k ∧ k ≤ 5) ∧ fb = true := by
 unfold fekB at h
 by_cases h1 : s < 0 ∨ 3 < s
 ·rw [if_pos h1] at h; exact absurd h (by decide)
 rw [if_neg h1] at h
 unfold filE at h
 by_cases h2 : ck = 0
 ·rw [if_neg (fun h => h h2)] at h
  by_cases h3 : k < 3 ∨ 5 < k
  ·rw [if_pos h3] at h; exact absurd h (by decide)
  ·rw [if_neg h3] at h
   by_cases h4 : fb = false
   ·rw [if_pos h4] at h; exact absurd h (by decide)
   ·exact ⟨⟨by omega, by omega⟩, h2, ⟨by omega, by omega⟩, by simpa using h4⟩
 ·rw [if_pos h2] at h; exact absurd h h2
theorem cir_zero {cb rb : Bool} (h : cirE cb rb = 0) : cb = true ∧ rb = true := by
 cases cb <;> cases rb
 ·exact absurd h (by decide)
 ·exact absurd h (by decide)
 ·exact absurd h (by decide)
 ·exact ⟨rfl, rfl⟩
theorem faults_x (s : Int) (F A I : Int) (oN oG oL oE oa ob oc od : Option Addr) (n cN g cG l cL m cE na ca nb cb nc cc nd cd : Nat) (k : Int) (f : Nat → Value × Value) (ni nt : Nat → Nat) (In Tb : Nat → Nat → Int) (T : Nat → Int × Int × Int × Nat) (G : Nat → Int) (E : Nat → Int × Int) (Fa Fb Fc : Nat → Value) (La Lb Lc : Nat → Nat) (Ea Eb Ec : Nat → Nat → Nat) (P : Nat → Int × Int × Int × Int) (hgn : g ≤ 100000000000000) (hr : Rng F A I m E) (ha : na ≤ 1000000) (hb : nb ≤ 1000000) (hc : nc ≤ 1000000) (hd : nd ≤ 1000000) (hT : ∀ i, i < n → (T i).2.2.2 < 115792089237316195423570985008687907853269984665640564039457584007913129639936) (hrg : ∀ i, i < n → rng (T i).2.1 ∧ rng (T i).2.2.1) (hE : ShR na La Ea nb Lb Eb nc Lc Ec) (w : World) (hg : Glob w) (hci : Cir w (.slice oN n cN) (.slice oG g cG) (.slice oL l cL) (.slice oE m cE) n T g G l f ni nt In Tb m E) (hsh : ShQ w (.slice oa na ca) (.slice ob nb cb) (.slice oc nc cc) (.slice od nd cd) na Fa La Ea nb Fb Lb Eb nc Fc Lc Ec nd P) :
  Calls Tryz.prog 18 #[.int .i64 s, .agg #[.int .i64 F, .int .i64 A, .int .i64 I, .slice oN n cN, .slice oG g cG, .slice oL l cL, .slice oE m cE], .int .i64 k, .agg #[.slice oa na ca, .slice ob nb cb, .slice oc nc cc, .slice od nd cd]] w fun e w' => FauX e w w' (fekB s (cirE (chkB n T F A I) (rgtB n T F A I g G l ni nt In Tb m E)) k (shtB F A I m na nb nc nd La Lb Lc P k)) (allF s.toNat na La Ea nb Lb Eb nc Lc Ec k.toNat T n G g ni nt In Tb l E P nd) ∧ Below w.heap.size w w' := by
 by_cases h1 : s < 0 ∨ 3 < s
 ·have e0 : fekB s (cirE (chkB n T F A I) (rgtB n T F A I g G l ni nt In Tb m E)) k (shtB F A I m na nb nc nd La Lb Lc P k) = 20 := if_pos h1
  rw [e0]
  refine (faults_out s (by omega) F A I oN oG oL oE oa ob oc od n cN g cG l cL m cE na ca nb cb nc cc nd cd k w).mono ?_
  rintro e w' ⟨rfl, hb⟩
  exact ⟨⟨none, 0, 0, rfl, fun h => absurd h (by decide)⟩, hb⟩
 have e0 : fekB s (cirE (chkB n T F A I) (rgtB n T F A I g G l ni nt In Tb m E)) k (shtB F A I m na nb nc nd La Lb Lc P k) = filE (cirE (chkB n T F A I) (rgtB n T F A I g G l ni nt In Tb m E)) k (shtB F A I m na nb nc nd La Lb Lc P k) := if_neg h1
 obtain ⟨sn, rfl⟩ : ∃ sn : Nat, s = (sn : Int) := ⟨s.toNat, by omega⟩
 by_cases h2 : filE (cirE (chkB n T F A I) (rgtB n T F A I g G l ni nt In Tb m E)) k (shtB F A I m na nb nc nd La Lb Lc P k) = 0
 ·have hz := fek_zero (e0.trans h2)
  obtain ⟨kn, rfl⟩ : ∃ kn : Nat, k = (kn : Int) := ⟨k.toNat, by omega⟩
  rw [e0, h2]
  obtain ⟨hcb, hrb⟩ := cir_zero hz.2.1
  refine (faults_all sn (by omega) F A I oN oG oL oE oa ob oc od n cN g cG l cL m cE na ca nb cb nc cc nd cd kn f ni nt In Tb T G E Fa Fb Fc La Lb Lc Ea Eb Ec P hgn hr ha hb hc hd (by omega) (by omega) hcb hrb hz.2.2.2 hT hrg hE w hg hci hsh).mono ?_
  rintro e w' ⟨⟨v, rfl, hv⟩, hb⟩
  obtain ⟨o, c, hs, _⟩ := own_shape hv
  subst hs
  exact ⟨⟨o, _, c, rfl, fun _ => ⟨hv, rfl⟩⟩, hb⟩
 ·rw [e0]
  refine (faults_bad sn (by omega) F A I oN oG oL oE oa ob oc od n cN g cG l cL m cE na ca nb cb nc cc nd cd k f ni nt In Tb T G E Fa Fb Fc La Lb Lc Ea Eb Ec P hgn hr ha hb hc hd w hg hci hsh h2).mono ?_
  rintro e w' ⟨rfl, hb⟩
  exact ⟨⟨none, 0, 0, rfl, fun h => absurd h h2⟩, hb⟩
theorem part_ek {s k F A I : Int} {n : Nat} {T : Nat → Int × Int × Int × Nat} {g : Nat} {G : Nat → Int} {l : Nat} {ni nt : Nat → Nat} {In Tb : Nat → Nat → Int} {m : Nat} {E : Nat → Int × Int} {na nb nc nd : Nat} {La Lb Lc : Nat → Nat} {P : Nat → Int × Int × Int × Int} (h : fekB s (cirE (chkB n T F A I) (rgtB n T F A I g G l ni nt In Tb m E)) k (shtB F A I m na nb nc nd La Lb Lc P k) = 0) (g' l' nd' : Nat) (hg : g' = g ∨ g' = 0) (hl : l' = l ∨ l' = 0) (hd : nd' = nd ∨ nd' = 0) : fekB s (cirE (chkB n T F A I) (rgtB n T F A I g' G l' ni nt In Tb m E)) k (shtB F A I m na nb nc nd' La Lb Lc P k) = 0 := by
 obtain ⟨h1, h2, h3, h4⟩ := fek_zero h
 obtain ⟨hcb, hrb⟩ := cir_zero h2
 have hs : shtB F A I m na nb nc nd' La Lb Lc P k = true := by
  rcases hd with rfl | rfl
  ·exact h4
  ·unfold shtB at h4 ⊢
   rw [Bool.and_eq_true] at h4 ⊢
   exact ⟨h4.1, decide_eq_true ⟨by omega, fun i hi => by omega⟩⟩
 rw [hcb, rgt_part hrb g' l' hg hl, hs]
 unfold fekB filE cirE
 rw [if_neg (by omega), if_neg (by decide), if_neg (by omega), if_neg (by decide)]
theorem faults_part (s : Int) (F A I : Int) (oN oG oL oE oa ob oc od : Option Addr) (n cN g cG l cL m cE na ca nb cb nc cc nd cd : Nat) (k : Int) (f : Nat → Value × Value) (ni nt : Nat → Nat) (In Tb : Nat → Nat → Int) (T : Nat → Int × Int × Int × Nat) (G : Nat → Int) (E : Nat → Int × Int) (Fa Fb Fc : Nat → Value) (La Lb Lc : Nat → Nat) (Ea Eb Ec : Nat → Nat → Nat) (P : Nat → Int × Int × Int × Int) (hgn : g ≤ 100000000000000) (hr : Rng F A I m E) (ha : na ≤ 1000000) (hb : nb ≤ 1000000) (hc : nc ≤ 1000000) (hd : nd ≤ 1000000) (hT : ∀ i, i < n → (T i).2.2.2 < 115792089237316195423570985008687907853269984665640564039457584007913129639936) (hrg : ∀ i, i < n → rng (T i).2.1 ∧ rng (T i).2.2.1) (hE : ShR na La Ea nb Lb Eb nc Lc Ec) (h0 : fekB s (cirE (chkB n T F A I) (rgtB n T F A I g G l ni nt In Tb m E)) k (shtB F A I m na nb nc nd La Lb Lc P k) = 0) (w : World) (hg : Glob w) (hci : Cir w (.slice oN n cN) (.slice oG g cG) (.slice oL l cL) (.slice oE m cE) n T g G l f ni nt In Tb m E) (hsh : ShQ w (.slice oa na ca) (.slice ob nb cb) (.slice oc nc cc) (.slice od nd cd) na Fa La Ea nb Fb Lb Eb nc Fc Lc Ec nd P) :
  Calls Tryz.prog 18 #[.int .i64 s, .agg #[.int .i64 F, .int .i64 A, .int .i64 I, .slice oN n cN, .slice oG g cG, .slice oL l cL, .slice oE m cE], .int .i64 k, .agg #[.slice oa na ca, .slice ob nb cb, .slice oc nc cc, .slice od nd cd]] w fun e w' => (∃ o N c, e = .returned (.tuple #[.slice o N c, .int .i64 0]) ∧ Fs w' (.slice o N c) (allF s.toNat na La Ea nb Lb Eb nc Lc Ec k.toNat T n G g ni nt In Tb l E P nd) ∧ N = (allF s.toNat na La Ea nb Lb Eb nc Lc Ec k.toNat T n G g ni nt In Tb l E P nd).length) ∧ Below w.heap.size w w' := by
 refine (faults_x s F A I oN oG oL oE oa ob oc od n cN g cG l cL m cE na ca nb cb nc cc nd cd k f ni nt In Tb T G E Fa Fb Fc La Lb Lc Ea Eb Ec P hgn hr ha hb hc hd hT hrg hE w hg hci hsh).mono ?_
 rw [h0]
 rintro e w' ⟨⟨o, N, c, rfl, hx⟩, hb⟩
 exact ⟨⟨o, N, c, rfl, (hx rfl).1.fs, (hx rfl).2⟩, hb⟩
theorem allF_len (s : Nat) (na : Nat) (La : Nat → Nat) (Ea : Nat → Nat → Nat) (nb : Nat) (Lb : Nat → Nat) (Eb : Nat → Nat → Nat) (nc : Nat) (Lc : Nat → Nat) (Ec : Nat → Nat → Nat) (kn : Nat) (T : Nat → Int × Int × Int × Nat) (n : Nat) (G : Nat → Int) (g : Nat) (ni nt : Nat → Nat) (In Tb : Nat → Nat → Int) (l : Nat) (E : Nat → Int × Int) (P : Nat → Int × Int × Int × Int) (nd : Nat) {F A I : Int} {m : Nat} (h3 : 3 ≤ kn) (h5 : kn ≤ 5) (hrt : rgtB n T F A I g G l ni nt In Tb m E = true) (hd : nd ≤ 1000) : (allF s na La Ea nb Lb Eb nc Lc Ec kn T n G g ni nt In Tb l E P nd).length ≤ 10000 := by
 have hu : 2 ^ kn - 4 ≤ 28 := by
  have hk : kn = 3 ∨ kn = 4 ∨ kn = 5 := by omega
  rcases hk with rfl | rfl | rfl <;> decide
 have h16 := (gatB_true (rgtB_true hrt).2.1).1
 have hl4 : l ≤ 4 := by have h := (rgtB_true hrt).2.2.1; unfold lksB at h; rw [Bool.and_eq_true] at h; exact of_decide_eq_true h.1
 have h1 := gtL_len (fun (r : Nat) i => rowV s na La Ea nb Lb Eb nc Lc Ec kn (r : Int) T n i) G (fun i => rwE true T (kn : Int) (G i).toNat) 28 g (fun j _ => by
  have h := rw_range T (kn : Int) (G j).toNat
  rw [usN_k kn h3 h5] at h
  (try dsimp only)
  omega)
 have h2 := lkL_len (fun (r : Nat) i => rowV s na La Ea nb Lb Eb nc Lc Ec kn (r : Int) T n i) ni nt In Tb (2 ^ kn - 4) l
 have h4 : l * (2 ^ kn - 4) ≤ 4 * 28 := Nat.mul_le_mul hl4 hu
 have h6 := cpL_len (cpD s na La Ea nb Lb Eb nc Lc Ec E P) nd
 unfold allF
 rw [List.length_append, List.length_append]
 omega
set_option maxHeartbeats 4000000 in
set_option maxRecDepth 100000 in
theorem parts_walk (s : Int) (F A I : Int) (oN oG oL oE oa ob oc od : Option Addr) (n cN g cG l cL m cE na ca nb cb nc cc nd cd : Nat) (k : Int) (f : Nat → Value × Value) (ni nt : Nat → Nat) (In Tb : Nat → Nat → Int) (T : Nat → Int × Int × Int × Nat) (G : Nat → Int) (E : Nat → Int × Int) (Fa Fb Fc : Nat → Value) (La Lb Lc : Nat → Nat) (Ea Eb Ec : Nat → Nat → Nat) (P : Nat → Int × Int × Int × Int) (hz : na ≤ 10000000000000 ∧ nb ≤ 10000000000000 ∧ nc ≤ 10000000000000) (hi : ∀ i, i < l → ni i ≤ 17592186044416 ∧ nt i ≤ 17592186044416) (hr : Rng F A I m E) (hT : ∀ i, i < n → (T i).2.2.2 < 115792089237316195423570985008687907853269984665640564039457584007913129639936) (hrg : ∀ i, i < n → rng (T i).2.1 ∧ rng (T i).2.2.1) (hLa : ∀ i, i < na → La i ≤ 4398046510976) (hLb : ∀ i, i < nb → Lb i ≤ 4398046510976) (hLc : ∀ i, i < nc → Lc i ≤ 4398046510976) (hE : ShR na La Ea nb Lb Eb nc Lc Ec) (w : World) (hg : Glob w) (hci : CirQ w (.slice oN n cN) (.slice oG g cG) (.slice oL l cL) (.slice oE m cE) n T g G l f ni nt In Tb m E) (hsh : ShQ w (.slice oa na ca) (.slice ob nb cb) (.slice oc nc cc) (.slice od nd cd) na Fa La Ea nb Fb Lb Eb nc Fc Lc Ec nd P) :
  Calls Tryz.prog 6 #[.int .i64 s, .agg #[.int .i64 F, .int .i64 A, .int .i64 I, .slice oN n cN, .slice oG g cG, .slice oL l cL, .slice oE m cE], .int .i64 k, .agg #[.slice oa na ca, .slice ob nb cb, .slice oc nc cc, .slice od nd cd]] w fun e w' => e = .returned (.bool true) ∧ Below w.heap.size w w' := by
 obtain ⟨B5, eB5⟩ : ∃ b, b = w.heap.size := ⟨_, rfl⟩
 obtain ⟨B7, eB7⟩ : ∃ b, b = w.heap.size + 1 := ⟨_, rfl⟩
 obtain ⟨w1, hw1⟩ : ∃ z : World, z = w.alloc (.cells #[.int .i64 F, .int .i64 A, .int .i64 I, .slice oN n cN, .slice oG g cG, .slice oL l cL, .slice oE m cE] 27) := ⟨_, rfl⟩
 have hz1 : w1.heap.size = w.heap.size + 1 := by rw [hw1]; simp
 obtain ⟨w2, hw2⟩ : ∃ z : World, z = w1.alloc (.cells #[.slice oa na ca, .slice ob nb cb, .slice oc nc cc, .slice od nd cd] 31) := ⟨_, rfl⟩
 have hz2 : w2.heap.size = w.heap.size + 1 + 1 := by rw [hw2]; simp [hz1]
 have hb1 : Below w.heap.size w w1 := by rw [hw1]; exact bAlloc (Below.refl _ _) _
 have hb2 : Below w1.heap.size w1 w2 := by rw [hw2]; exact bAlloc (Below.refl _ _) _
 have f1 : w1.heap[B5]? = some (.cells #[.int .i64 F, .int .i64 A, .int .i64 I, .slice oN n cN, .slice oG g cG, .slice oL l cL, .slice oE m cE] 27) := by rw [hw1, eB5]; show (w.heap.push _)[w.heap.size]? = _; simp
 have f12 := (hb2.block B5 (by omega)).trans f1
 have f2 : w2.heap[B7]? = some (.cells #[.slice oa na ca, .slice ob nb cb, .slice oc nc cc, .slice od nd cd] 31) := by rw [hw2, eB7, ← hz1]; show (w1.heap.push _)[w1.heap.size]? = _; simp
 have HB2 : Hid (Below w.heap.size w w2) := bStep hb1 hb2
 have HF5 : Hid (∀ w', Below w2.heap.size w2 w' → w'.cell? ⟨B5, 0, none⟩ = some (.int .i64 F) ∧ w'.cell? ⟨B5, 1, none⟩ = some (.int .i64 A) ∧ w'.cell? ⟨B5, 2, none⟩ = some (.int .i64 I) ∧ w'.cell? ⟨B5, 3, none⟩ = some (.slice oN n cN) ∧ w'.cell? ⟨B5, 4, none⟩ = some (.slice oG g cG) ∧ w'.cell? ⟨B5, 5, none⟩ = some (.slice oL l cL) ∧ w'.cell? ⟨B5, 6, none⟩ = some (.slice oE m cE)) := fun w' h => by
  have h1 := (h.block B5 (by omega)).trans f12
  exact ⟨by simp [World.cell?, h1], by simp [World.cell?, h1], by simp [World.cell?, h1], by simp [World.cell?, h1], by simp [World.cell?, h1], by simp [World.cell?, h1], by simp [World.cell?, h1]⟩
 have HF7 : Hid (∀ w', Below w2.heap.size w2 w' → w'.cell? ⟨B7, 0, none⟩ = some (.slice oa na ca) ∧ w'.cell? ⟨B7, 1, none⟩ = some (.slice ob nb cb) ∧ w'.cell? ⟨B7, 2, none⟩ = some (.slice oc nc cc) ∧ w'.cell? ⟨B7, 3, none⟩ = some (.slice od nd cd)) := fun w' h => by
  have h1 := (h.block B7 (by omega)).trans f2
  exact ⟨by simp [World.cell?, h1], by simp [World.cell?, h1], by simp [World.cell?, h1], by simp [World.cell?, h1]⟩
 have hbk : ∀ w', Below w2.heap.size w2 w' → Below w.heap.size w w' := fun w' h => bStep HB2.out h
 have HGL : Hid (∀ w', Below w2.heap.size w2 w' → Glob w') := fun w' h => hg.below (hbk w' h)
 have HAL : Hid (Calls _ _ _ _ _) := alive13_any w2 (hg.below HB2.out)
 have HGR : Hid (∀ w', Calls _ _ _ w' _) := fun w' => great13_any F A I oN oG oL oE n cN g cG l cL m cE oa ob oc od na ca nb cb nc cc nd cd (by omega) (by omega) (by omega) w'
 have HCI : Hid (∀ w', Below w2.heap.size w2 w' → CirQ w' (.slice oN n cN) (.slice oG g cG) (.slice oL l cL) (.slice oE m cE) n T g G l f ni nt In Tb m E) := fun w' h => hci.below (hbk w' h)
 have HSH : Hid (∀ w', Below w2.heap.size w2 w' → ShQ w' (.slice oa na ca) (.slice ob nb cb) (.slice oc nc cc) (.slice od nd cd) na Fa La Ea nb Fb Lb Eb nc Fc Lc Ec nd P) := fun w' h => hsh.below (hbk w' h)
 have HRG : Hid (Rng F A I m E) := hr
 have HTT : Hid (∀ i, i < n → (T i).2.2.2 < 115792089237316195423570985008687907853269984665640564039457584007913129639936) := hT
 have HRN : Hid (∀ i, i < n → rng (T i).2.1 ∧ rng (T i).2.2.1) := hrg
 have HIB : Hid (∀ i, i < l → ni i ≤ 17592186044416 ∧ nt i ≤ 17592186044416) := hi
 have HLL : Hid ((∀ i, i < na → La i ≤ 4398046510976) ∧ (∀ i, i < nb → Lb i ≤ 4398046510976) ∧ ∀ i, i < nc → Lc i ≤ 4398046510976) := ⟨hLa, hLb, hLc⟩
 have HSR : Hid (ShR na La Ea nb Lb Eb nc Lc Ec) := hE
 clear hci hsh hg hi hr hT hrg hLa hLb hLc hE hz hbk f1 f12 f2 hb1 hb2
 go_enter Tryz.func6, Tryz.ntmps6
 go_upto_region 1 with fail
 rw [← hw1]
 rw [← hw2]
 (try rw [← eB7]); (try rw [← eB5])
 clear hw1 hw2 hz1 hz2 eB5 eB7
 go_wp2_with fail
 refine Calls.mono HAL.out ?_
 rintro e w3 ⟨rfl, hb3⟩
 have HB3 : Hid (Below w2.heap.size w2 w3) := hb3
 obtain ⟨q0, q1, q2, q3, q4, q5, q6⟩ := HF5.out w3 hb3
 obtain ⟨r0, r1, r2, r3⟩ := HF7.out w3 hb3
 clear HAL hb3
 go_wp2_with fail
 refine Calls.mono (HGR.out w3) ?_
 rintro e w4 ⟨rfl, hb4⟩
 have HBW : Hid (Below w2.heap.size w2 w4) := bStep HB3.out hb4
 clear HGR hb4 q0 q1 q2 q3 q4 q5 q6 r0 r1 r2 r3
 obtain ⟨gr, egr⟩ : ∃ b, b = grS n g l m na nb nc nd := ⟨_, rfl⟩
 rw [← egr]
 have HEG : Hid (gr = grS n g l m na nb nc nd) := egr
 clear egr
 cases gr with
 | true =>
  have HBF : Hid (Below w.heap.size w w4) := bStep HB2.out HBW.out
  go_wp2
  go_ret
  exact ⟨rfl, HBF.out⟩
 | false =>
 have HSZ : Hid (n ≤ 200 ∧ g ≤ 100 ∧ l ≤ 20 ∧ m ≤ 100 ∧ na + nb + nc ≤ 100 ∧ nd ≤ 1000) := by
  have h := of_decide_eq_false HEG.out.symm
  show n ≤ 200 ∧ g ≤ 100 ∧ l ≤ 20 ∧ m ≤ 100 ∧ na + nb + nc ≤ 100 ∧ nd ≤ 1000
  omega
 clear HEG
 have HCC : Hid (∀ w', Below w2.heap.size w2 w' → Calls _ _ _ w' _) := fun w' h => copyC_any F A I oN oG oL oE n cN g cG l cL m cE f ni nt In Tb T G E (by have := HSZ.out; omega) (by have := HSZ.out; omega) (by have := HSZ.out; omega) (by have := HSZ.out; omega) HIB.out w' (HCI.out w' h)
 have HCS : Hid (∀ w', Below w2.heap.size w2 w' → Calls _ _ _ w' _) := fun w' h => copyS_any oa ob oc od na ca nb cb nc cc nd cd Fa Fb Fc La Lb Lc Ea Eb Ec P (by have := HSZ.out; omega) (by have := HSZ.out; omega) (by have := HSZ.out; omega) (by have := HSZ.out; omega) HLL.out.1 HLL.out.2.1 HLL.out.2.2 w' (HSH.out w' h)
 obtain ⟨ek, eek⟩ : ∃ x, x = fekB s (cirE (chkB n T F A I) (rgtB n T F A I g G l ni nt In Tb m E)) k (shtB F A I m na nb nc nd La Lb Lc P k) := ⟨_, rfl⟩
 obtain ⟨XS, eXS⟩ : ∃ x, x = allF s.toNat na La Ea nb Lb Eb nc Lc Ec k.toNat T n G g ni nt In Tb l E P nd := ⟨_, rfl⟩
 have HFX : Hid (∀ (oN oG oL oE oa ob oc od : Option Addr) (cN cG cL cE ca cb cc cd : Nat) (f : Nat → Value × Value) (Fa Fb Fc : Nat → Value) (w' : World), Below w2.heap.size w2 w' → Cir w' (.slice oN n cN) (.slice oG g cG) (.slice oL l cL) (.slice oE m cE) n T g G l f ni nt In Tb m E → ShQ w' (.slice oa na ca) (.slice ob nb cb) (.slice oc nc cc) (.slice od nd cd) na Fa La Ea nb Fb Lb Eb nc Fc Lc Ec nd P → Calls Tryz.prog 18 #[.int .i64 s, .agg #[.int .i64 F, .int .i64 A, .int .i64 I, .slice oN n cN, .slice oG g cG, .slice oL l cL, .slice oE m cE], .int .i64 k, .agg #[.slice oa na ca, .slice ob nb cb, .slice oc nc cc, .slice od nd cd]] w' fun e w'' => FauX e w' w'' ek XS ∧ Below w'.heap.size w' w'') := fun oN oG oL oE oa ob oc od cN cG cL cE ca cb cc cd f Fa Fb Fc w' h hc hs => by
  rw [eek, eXS]
  exact faults_x s F A I oN oG oL oE oa ob oc od n cN g cG l cL m cE na ca nb cb nc cc nd cd k f ni nt In Tb T G E Fa Fb Fc La Lb Lc Ea Eb Ec P (by have := HSZ.out; omega) HRG.out (by have := HSZ.out; omega) (by have := HSZ.out; omega) (by have := HSZ.out; omega) (by have := HSZ.out; omega) HTT.out HRN.out HSR.out w' (HGL.out w' h) hc hs
 have HEK : Hid (ek = fekB s (cirE (chkB n T F A I) (rgtB n T F A I g G l ni nt In Tb m E)) k (shtB F A I m na nb nc nd La Lb Lc P k)) := eek
 have HXE : Hid (XS = allF s.toNat na La Ea nb Lb Eb nc Lc Ec k.toNat T n G g ni nt In Tb l E P nd) := eXS
 clear eek eXS
 go_upto_region 5 with fail
 refine wp_region_Z (fun w' => Below w4.heap.size w4 w') 99 (by kernel_rfl) ?_
 obtain ⟨wD, hD⟩ : ∃ z : World, z = w4.drew := ⟨_, rfl⟩
 rw [← hD]
 have hp0 : Below w4.heap.size w4 wD := by rw [hD]; exact (Below.refl _ _).drew
 clear hD
 refine zt 0 28 (.int .i64 s) rfl rfl (fun w hSw => by go_simp) hp0 ?_
 simp only [Act.put, z1]
 (try dsimp only [z2, z3])
 refine zt 1 29 (.agg #[.int .i64 F, .int .i64 A, .int .i64 I, .slice oN n cN, .slice oG g cG, .slice oL l cL, .slice oE m cE]) rfl rfl (fun w hSw => by obtain ⟨q0, q1, q2, q3, q4, q5, q6⟩ := HF5.out w (bStep HBW.out hSw); clear hSw; go_simp) hp0 ?_
 simp only [Act.put, z1]
 (try dsimp only [z2, z3])
 refine zt 3 31 (.int .i64 k) rfl rfl (fun w hSw => by go_simp) hp0 ?_
 simp only [Act.put, z1]
 (try dsimp only [z2, z3])
 refine zt 4 32 (.agg #[.slice oa na ca, .slice ob nb cb, .slice oc nc cc, .slice od nd cd]) rfl rfl (fun w hSw => by obtain ⟨r0, r1, r2, r3⟩ := HF7.out w (bStep HBW.out hSw); clear hSw; go_simp) hp0 ?_
 simp only [Act.put, z1]
 (try dsimp only [z2, z3])
 refine wpZ_one (i := 2) (by kernel_rfl) rfl (fun K hK => ?_)
 go_simp
 refine Calls.mono (HCC.out wD (bStep HBW.out hp0)) ?_
 rintro e wK1 ⟨oN5, oG5, oL5, oE5, cN5, cG5, cL5, cE5, f5, rfl, hc5, hbK1⟩
 have hpK1 : Below w4.heap.size w4 wK1 := bStep hp0 hbK1
 clear hbK1
 go_wp2_with fail
 refine hK.out _ _ (fun _ => hpK1) ?_
 clear hK K
 refine wpZ_one (i := 5) (by kernel_rfl) rfl (fun K hK => ?_)
 go_simp
 refine Calls.mono (HCS.out wK1 (bStep HBW.out hpK1)) ?_
 rintro e wK2 ⟨oa5, ob5, oc5, od5, ca5, cb5, cc5, cd5, Fa5, Fb5, Fc5, rfl, hs5, hbK2⟩
 have hpK2 : Below w4.heap.size w4 wK2 := bStep hpK1 hbK2
 have hc5 := hc5.below hbK2
 clear hbK2
 go_wp2_with fail
 refine hK.out _ _ (fun _ => hpK2) ?_
 clear hK K
 refine wpZ_one (i := 6) (by kernel_rfl) rfl (fun K hK => ?_)
 go_simp
 refine Calls.mono (HFX.out _ _ _ _ _ _ _ _ _ _ _ _ _ _ _ _ _ _ _ _ wK2 (bStep HBW.out hpK2) hc5 hs5) ?_
 rintro e wK3 ⟨⟨oX, NX, cX, rfl, hxX⟩, hbK3⟩
 have hpK3 : Below w4.heap.size w4 wK3 := bStep hpK2 hbK3
 clear hbK3
 go_wp2_with fail
 refine hK.out _ _ (fun _ => hpK3) ?_
 clear hK K
 refine zt 7 27 (.tuple #[.slice oX NX cX, .int .i64 ek]) rfl rfl (fun w hSw => by go_simp) hpK3 ?_
 simp only [Act.put, z1]
 (try dsimp only [z2, z3])
 refine zt 8 35 (.slice oX NX cX) rfl rfl (fun w hSw => by go_simp) hpK3 ?_
 simp only [Act.put, z1]
 (try dsimp only [z2, z3])
 refine zt 9 36 (.int .i64 ek) rfl rfl (fun w hSw => by go_simp) hpK3 ?_
 simp only [Act.put, z1]
 (try dsimp only [z2, z3])
 refine zt 10 9 (.slice oX NX cX) rfl rfl (fun w hSw => by go_simp) hpK3 ?_
 simp only [Act.put, z1]
 (try dsimp only [z2, z3])
 refine zt 11 10 (.int .i64 ek) rfl rfl (fun w hSw => by go_simp) hpK3 ?_
 simp only [Act.put, z1]
 (try dsimp only [z2, z3])
 refine wpZ_done (by kernel_rfl) ?_ _
 have HBX : Hid (Below w2.heap.size w2 wK3) := bStep HBW.out hpK3
 have HXX : Hid (ek = 0 → Fs wK3 (.slice oX NX cX) XS ∧ NX = XS.length) := fun h => ⟨(hxX h).1.fs, (hxX h).2⟩
 clear hp0 hpK1 hpK2 hpK3 hc5 hs5 hxX
 by_cases h0 : ek = 0
 rotate_left
 ·have HBF : Hid (Below w.heap.size w wK3) := bStep HB2.out HBX.out
  go_wp2
  go_ret
  exact ⟨rfl, HBF.out⟩
 subst h0
 have HXF : Hid (Fs wK3 (.slice oX NX cX) XS ∧ NX = XS.length) := HXX.out rfl
 have HBwK3 : Hid (Below w2.heap.size w2 wK3) := HBX.out
 clear HXX HBX HFX
 go_upto_region 8 with fail
 obtain ⟨q0, q1, q2, q3, q4, q5, q6⟩ := HF5.out wK3 HBwK3.out
 go_wp2_with fail
 refine Calls.mono (HCC.out wK3 HBwK3.out) ?_
 rintro e wag ⟨oNg, oGg, oLg, oEg, cNg, cGg, cLg, cEg, fg, rfl, hcg, hbg⟩
 clear q0 q1 q2 q3 q4 q5 q6
 obtain ⟨B11, eB11⟩ : ∃ b, b = wag.heap.size := ⟨_, rfl⟩
 obtain ⟨wbg, hwwbg⟩ : ∃ z : World, z = wag.alloc (.cells #[.int .i64 F, .int .i64 A, .int .i64 I, .slice oNg n cNg, .slice oGg g cGg, .slice oLg l cLg, .slice oEg m cEg] 27) := ⟨_, rfl⟩
 have hqg : Below wag.heap.size wag wbg := by rw [hwwbg]; exact bAlloc (Below.refl _ _) _
 have fqg : wbg.heap[B11]? = some (.cells #[.int .i64 F, .int .i64 A, .int .i64 I, .slice oNg n cNg, .slice oGg g cGg, .slice oLg l cLg, .slice oEg m cEg] 27) := by rw [hwwbg, eB11]; show (wag.heap.push _)[wag.heap.size]? = _; simp
 have hlg : wag.heap.size ≤ B11 := by omega
 go_upto_region 9 with fail
 rw [← hwwbg]
 (try rw [← eB11])
 clear hwwbg eB11
 have dq : wbg.cell? ⟨B11, 5, none⟩ = some (.slice oLg l cLg) := by simp [World.cell?, fqg]
 have gq : ∀ o, wbg.frozen? ⟨B11, o, none⟩ = false := fun o => by simp [World.frozen?, fqg]
 obtain ⟨wbg0, hwbg0⟩ : ∃ z : World, z = wbg.setCell ⟨B11, 5, none⟩ (.slice none 0 0) := ⟨_, rfl⟩
 have kq : KS (fun x => x = B11) wbg wbg0 := by rw [hwbg0]; exact KS.setCell wbg ⟨B11, 5, none⟩ _ rfl
 have fqg : wbg0.heap[B11]? = some (.cells #[.int .i64 F, .int .i64 A, .int .i64 I, .slice oNg n cNg, .slice oGg g cGg, .slice none 0 0, .slice oEg m cEg] 27) := by rw [hwbg0]; simp [World.setCell, Array.getElem?_modify, fqg]
 have hqg : Below wag.heap.size wag wbg0 := hqg.trans (kq.below hqg.size (fun x hx => by rw [hx]; exact hlg))
 go_upto_region 10 with fail
 rw [← hwbg0]
 clear dq gq kq hwbg0
 have HSg : Hid (Below wK3.heap.size wK3 wbg0) := bStep hbg hqg
 have HBwbg0 : Hid (Below w2.heap.size w2 wbg0) := bStep HBwK3.out HSg.out
 have HCg : Hid (∀ w', Below wbg0.heap.size wbg0 w' → Cir w' (.slice oNg n cNg) (.slice oGg g cGg) (.slice none 0 0) (.slice oEg m cEg) n T g G 0 fg ni nt In Tb m E) := fun w' h => by
  have h1 := (hcg.below hqg).below h
  exact ⟨h1.1, h1.2.1, ⟨Or.inl ⟨rfl, rfl⟩, fun i hi => by omega⟩, h1.2.2.2⟩
 have HQg : Hid (∀ w', Below wbg0.heap.size wbg0 w' → w'.cell? ⟨B11, 0, none⟩ = some (.int .i64 F) ∧ w'.cell? ⟨B11, 1, none⟩ = some (.int .i64 A) ∧ w'.cell? ⟨B11, 2, none⟩ = some (.int .i64 I) ∧ w'.cell? ⟨B11, 3, none⟩ = some (.slice oNg n cNg) ∧ w'.cell? ⟨B11, 4, none⟩ = some (.slice oGg g cGg) ∧ w'.cell? ⟨B11, 5, none⟩ = some (.slice none 0 0) ∧ w'.cell? ⟨B11, 6, none⟩ = some (.slice oEg m cEg)) := fun w' h => by
  have h1 := (h.block B11 (Array.getElem?_eq_some_iff.1 fqg).1).trans fqg
  exact ⟨by simp [World.cell?, h1], by simp [World.cell?, h1], by simp [World.cell?, h1], by simp [World.cell?, h1], by simp [World.cell?, h1], by simp [World.cell?, h1], by simp [World.cell?, h1]⟩
 clear hcg hbg hqg fqg hlg
 obtain ⟨q0, q1, q2, q3, q4, q5, q6⟩ := HF5.out wbg0 HBwbg0.out
 go_wp2_with fail
 refine Calls.mono (HCC.out wbg0 HBwbg0.out) ?_
 rintro e wau ⟨oNu, oGu, oLu, oEu, cNu, cGu, cLu, cEu, fu, rfl, hcu, hbu⟩
 clear q0 q1 q2 q3 q4 q5 q6
 obtain ⟨B12, eB12⟩ : ∃ b, b = wau.heap.size := ⟨_, rfl⟩
 obtain ⟨wbu, hwwbu⟩ : ∃ z : World, z = wau.alloc (.cells #[.int .i64 F, .int .i64 A, .int .i64 I, .slice oNu n cNu, .slice oGu g cGu, .slice oLu l cLu, .slice oEu m cEu] 27) := ⟨_, rfl⟩
 have hqu : Below wau.heap.size wau wbu := by rw [hwwbu]; exact bAlloc (Below.refl _ _) _
 have fqu : wbu.heap[B12]? = some (.cells #[.int .i64 F, .int .i64 A, .int .i64 I, .slice oNu n cNu, .slice oGu g cGu, .slice oLu l cLu, .slice oEu m cEu] 27) := by rw [hwwbu, eB12]; show (wau.heap.push _)[wau.heap.size]? = _; simp
 have hlu : wau.heap.size ≤ B12 := by omega
 go_upto_region 11 with fail
 rw [← hwwbu]
 (try rw [← eB12])
 clear hwwbu eB12
 have dq : wbu.cell? ⟨B12, 4, none⟩ = some (.slice oGu g cGu) := by simp [World.cell?, fqu]
 have gq : ∀ o, wbu.frozen? ⟨B12, o, none⟩ = false := fun o => by simp [World.frozen?, fqu]
 obtain ⟨wbu0, hwbu0⟩ : ∃ z : World, z = wbu.setCell ⟨B12, 4, none⟩ (.slice none 0 0) := ⟨_, rfl⟩
 have kq : KS (fun x => x = B12) wbu wbu0 := by rw [hwbu0]; exact KS.setCell wbu ⟨B12, 4, none⟩ _ rfl
 have fqu : wbu0.heap[B12]? = some (.cells #[.int .i64 F, .int .i64 A, .int .i64 I, .slice oNu n cNu, .slice none 0 0, .slice oLu l cLu, .slice oEu m cEu] 27) := by rw [hwbu0]; simp [World.setCell, Array.getElem?_modify, fqu]
 have hqu : Below wau.heap.size wau wbu0 := hqu.trans (kq.below hqu.size (fun x hx => by rw [hx]; exact hlu))
 go_upto_region 12 with fail
 rw [← hwbu0]
 clear dq gq kq hwbu0
 have HSu : Hid (Below wbg0.heap.size wbg0 wbu0) := bStep hbu hqu
 have HBwbu0 : Hid (Below w2.heap.size w2 wbu0) := bStep HBwbg0.out HSu.out
 have HCu : Hid (∀ w', Below wbu0.heap.size wbu0 w' → Cir w' (.slice oNu n cNu) (.slice none 0 0) (.slice oLu l cLu) (.slice oEu m cEu) n T 0 G l fu ni nt In Tb m E) := fun w' h => by
  have h1 := (hcu.below hqu).below h
  exact ⟨h1.1, Or.inl ⟨rfl, rfl⟩, h1.2.2.1, h1.2.2.2⟩
 have HQu : Hid (∀ w', Below wbu0.heap.size wbu0 w' → w'.cell? ⟨B12, 0, none⟩ = some (.int .i64 F) ∧ w'.cell? ⟨B12, 1, none⟩ = some (.int .i64 A) ∧ w'.cell? ⟨B12, 2, none⟩ = some (.int .i64 I) ∧ w'.cell? ⟨B12, 3, none⟩ = some (.slice oNu n cNu) ∧ w'.cell? ⟨B12, 4, none⟩ = some (.slice none 0 0) ∧ w'.cell? ⟨B12, 5, none⟩ = some (.slice oLu l cLu) ∧ w'.cell? ⟨B12, 6, none⟩ = some (.slice oEu m cEu)) := fun w' h => by
  have h1 := (h.block B12 (Array.getElem?_eq_some_iff.1 fqu).1).trans fqu
  exact ⟨by simp [World.cell?, h1], by simp [World.cell?, h1], by simp [World.cell?, h1], by simp [World.cell?, h1], by simp [World.cell?, h1], by simp [World.cell?, h1], by simp [World.cell?, h1]⟩
 clear hcu hbu hqu fqu hlu
 obtain ⟨r0, r1, r2, r3⟩ := HF7.out wbu0 HBwbu0.out
 go_wp2_with fail
 refine Calls.mono (HCS.out wbu0 HBwbu0.out) ?_
 rintro e wat ⟨oat, obt, oct, odt, cat, cbt, cct, cdt, Fat, Fbt, Fct, rfl, hst, hbt⟩
 clear r0 r1 r2 r3
 obtain ⟨B13, eB13⟩ : ∃ b, b = wat.heap.size := ⟨_, rfl⟩
 obtain ⟨wbt, hwwbt⟩ : ∃ z : World, z = wat.alloc (.cells #[.slice oat na cat, .slice obt nb cbt, .slice oct nc cct, .slice odt nd cdt] 31) := ⟨_, rfl⟩
 have hqt : Below wat.heap.size wat wbt := by rw [hwwbt]; exact bAlloc (Below.refl _ _) _
 have fqt : wbt.heap[B13]? = some (.cells #[.slice oat na cat, .slice obt nb cbt, .slice oct nc cct, .slice odt nd cdt] 31) := by rw [hwwbt, eB13]; show (wat.heap.push _)[wat.heap.size]? = _; simp
 have hlt : wat.heap.size ≤ B13 := by omega
 go_upto_region 13 with fail
 rw [← hwwbt]
 (try rw [← eB13])
 clear hwwbt eB13
 have dq : wbt.cell? ⟨B13, 3, none⟩ = some (.slice odt nd cdt) := by simp [World.cell?, fqt]
 have gq : ∀ o, wbt.frozen? ⟨B13, o, none⟩ = false := fun o => by simp [World.frozen?, fqt]
 obtain ⟨wbt0, hwbt0⟩ : ∃ z : World, z = wbt.setCell ⟨B13, 3, none⟩ (.slice none 0 0) := ⟨_, rfl⟩
 have kq : KS (fun x => x = B13) wbt wbt0 := by rw [hwbt0]; exact KS.setCell wbt ⟨B13, 3, none⟩ _ rfl
 have fqt : wbt0.heap[B13]? = some (.cells #[.slice oat na cat, .slice obt nb cbt, .slice oct nc cct, .slice none 0 0] 31) := by rw [hwbt0]; simp [World.setCell, Array.getElem?_modify, fqt]
 have hqt : Below wat.heap.size wat wbt0 := hqt.trans (kq.below hqt.size (fun x hx => by rw [hx]; exact hlt))
 go_upto_region 14 with fail
 rw [← hwbt0]
 clear dq gq kq hwbt0
 have HSt : Hid (Below wbu0.heap.size wbu0 wbt0) := bStep hbt hqt
 have HBwbt0 : Hid (Below w2.heap.size w2 wbt0) := bStep HBwbu0.out HSt.out
 have HCt : Hid (∀ w', Below wbt0.heap.size wbt0 w' → ShQ w' (.slice oat na cat) (.slice obt nb cbt) (.slice oct nc cct) (.slice none 0 0) na Fat La Ea nb Fbt Lb Eb nc Fct Lc Ec 0 P) := fun w' h => by
  have h1 := (hst.below hqt).below h
  exact ⟨h1.1, h1.2.1, h1.2.2.1, Or.inl ⟨rfl, rfl⟩⟩
 have HQt : Hid (∀ w', Below wbt0.heap.size wbt0 w' → w'.cell? ⟨B13, 0, none⟩ = some (.slice oat na cat) ∧ w'.cell? ⟨B13, 1, none⟩ = some (.slice obt nb cbt) ∧ w'.cell? ⟨B13, 2, none⟩ = some (.slice oct nc cct) ∧ w'.cell? ⟨B13, 3, none⟩ = some (.slice none 0 0)) := fun w' h => by
  have h1 := (h.block B13 (Array.getElem?_eq_some_iff.1 fqt).1).trans fqt
  exact ⟨by simp [World.cell?, h1], by simp [World.cell?, h1], by simp [World.cell?, h1], by simp [World.cell?, h1]⟩
 clear hst hbt hqt fqt hlt
 obtain ⟨q0, q1, q2, q3, q4, q5, q6⟩ := HF5.out wbt0 HBwbt0.out
 go_wp2_with fail
 refine Calls.mono (HCC.out wbt0 HBwbt0.out) ?_
 rintro e wav ⟨oNv, oGv, oLv, oEv, cNv, cGv, cLv, cEv, fv, rfl, hcv, hbv⟩
 clear q0 q1 q2 q3 q4 q5 q6
 obtain ⟨B14, eB14⟩ : ∃ b, b = wav.heap.size := ⟨_, rfl⟩
 obtain ⟨wbv, hwwbv⟩ : ∃ z : World, z = wav.alloc (.cells #[.int .i64 F, .int .i64 A, .int .i64 I, .slice oNv n cNv, .slice oGv g cGv, .slice oLv l cLv, .slice oEv m cEv] 27) := ⟨_, rfl⟩
 have hqv : Below wav.heap.size wav wbv := by rw [hwwbv]; exact bAlloc (Below.refl _ _) _
 have fqv : wbv.heap[B14]? = some (.cells #[.int .i64 F, .int .i64 A, .int .i64 I, .slice oNv n cNv, .slice oGv g cGv, .slice oLv l cLv, .slice oEv m cEv] 27) := by rw [hwwbv, eB14]; show (wav.heap.push _)[wav.heap.size]? = _; simp
 have hlv : wav.heap.size ≤ B14 := by omega
 go_upto_region 15 with fail
 rw [← hwwbv]
 (try rw [← eB14])
 clear hwwbv eB14
 have dq : wbv.cell? ⟨B14, 4, none⟩ = some (.slice oGv g cGv) := by simp [World.cell?, fqv]
 have gq : ∀ o, wbv.frozen? ⟨B14, o, none⟩ = false := fun o => by simp [World.frozen?, fqv]
 obtain ⟨wbv0, hwbv0⟩ : ∃ z : World, z = wbv.setCell ⟨B14, 4, none⟩ (.slice none 0 0) := ⟨_, rfl⟩
 have kq : KS (fun x => x = B14) wbv wbv0 := by rw [hwbv0]; exact KS.setCell wbv ⟨B14, 4, none⟩ _ rfl
 have fqv : wbv0.heap[B14]? = some (.cells #[.int .i64 F, .int .i64 A, .int .i64 I, .slice oNv n cNv, .slice none 0 0, .slice oLv l cLv, .slice oEv m cEv] 27) := by rw [hwbv0]; simp [World.setCell, Array.getElem?_modify, fqv]
 have hqv : Below wav.heap.size wav wbv0 := hqv.trans (kq.below hqv.size (fun x hx => by rw [hx]; exact hlv))
 go_upto_region 16 with fail
 rw [← hwbv0]
 clear dq gq kq hwbv0
 have dq : wbv0.cell? ⟨B14, 5, none⟩ = some (.slice oLv l cLv) := by simp [World.cell?, fqv]
 have gq : ∀ o, wbv0.frozen? ⟨B14, o, none⟩ = false := fun o => by simp [World.frozen?, fqv]
 obtain ⟨wbv1, hwbv1⟩ : ∃ z : World, z = wbv0.setCell ⟨B14, 5, none⟩ (.slice none 0 0) := ⟨_, rfl⟩
 have kq : KS (fun x => x = B14) wbv0 wbv1 := by rw [hwbv1]; exact KS.setCell wbv0 ⟨B14, 5, none⟩ _ rfl
 have fqv : wbv1.heap[B14]? = some (.cells #[.int .i64 F, .int .i64 A, .int .i64 I, .slice oNv n cNv, .slice none 0 0, .slice none 0 0, .slice oEv m cEv] 27) := by rw [hwbv1]; simp [World.setCell, Array.getElem?_modify, fqv]
 have hqv : Below wav.heap.size wav wbv1 := hqv.trans (kq.below hqv.size (fun x hx => by rw [hx]; exact hlv))
 go_upto_region 17 with fail
 rw [← hwbv1]
 clear dq gq kq hwbv1
 have HSv : Hid (Below wbt0.heap.size wbt0 wbv1) := bStep hbv hqv
 have HBwbv1 : Hid (Below w2.heap.size w2 wbv1) := bStep HBwbt0.out HSv.out
 have HCv : Hid (∀ w', Below wbv1.heap.size wbv1 w' → Cir w' (.slice oNv n cNv) (.slice none 0 0) (.slice none 0 0) (.slice oEv m cEv) n T 0 G 0 fv ni nt In Tb m E) := fun w' h => by
  have h1 := (hcv.below hqv).below h
  exact ⟨h1.1, Or.inl ⟨rfl, rfl⟩, ⟨Or.inl ⟨rfl, rfl⟩, fun i hi => by omega⟩, h1.2.2.2⟩
 have HQv : Hid (∀ w', Below wbv1.heap.size wbv1 w' → w'.cell? ⟨B14, 0, none⟩ = some (.int .i64 F) ∧ w'.cell? ⟨B14, 1, none⟩ = some (.int .i64 A) ∧ w'.cell? ⟨B14, 2, none⟩ = some (.int .i64 I) ∧ w'.cell? ⟨B14, 3, none⟩ = some (.slice oNv n cNv) ∧ w'.cell? ⟨B14, 4, none⟩ = some (.slice none 0 0) ∧ w'.cell? ⟨B14, 5, none⟩ = some (.slice none 0 0) ∧ w'.cell? ⟨B14, 6, none⟩ = some (.slice oEv m cEv)) := fun w' h => by
  have h1 := (h.block B14 (Array.getElem?_eq_some_iff.1 fqv).1).trans fqv
  exact ⟨by simp [World.cell?, h1], by simp [World.cell?, h1], by simp [World.cell?, h1], by simp [World.cell?, h1], by simp [World.cell?, h1], by simp [World.cell?, h1], by simp [World.cell?, h1]⟩
 clear hcv hbv hqv fqv hlv
 have HG11 : Hid (∀ w', Below wbv1.heap.size wbv1 w' → w'.cell? ⟨B11, 0, none⟩ = some (.int .i64 F) ∧ w'.cell? ⟨B11, 1, none⟩ = some (.int .i64 A) ∧ w'.cell? ⟨B11, 2, none⟩ = some (.int .i64 I) ∧ w'.cell? ⟨B11, 3, none⟩ = some (.slice oNg n cNg) ∧ w'.cell? ⟨B11, 4, none⟩ = some (.slice oGg g cGg) ∧ w'.cell? ⟨B11, 5, none⟩ = some (.slice none 0 0) ∧ w'.cell? ⟨B11, 6, none⟩ = some (.slice oEg m cEg)) := fun w' h => HQg.out w' (bStep HSu.out (bStep HSt.out (bStep HSv.out h)))
 have HG12 : Hid (∀ w', Below wbv1.heap.size wbv1 w' → w'.cell? ⟨B12, 0, none⟩ = some (.int .i64 F) ∧ w'.cell? ⟨B12, 1, none⟩ = some (.int .i64 A) ∧ w'.cell? ⟨B12, 2, none⟩ = some (.int .i64 I) ∧ w'.cell? ⟨B12, 3, none⟩ = some (.slice oNu n cNu) ∧ w'.cell? ⟨B12, 4, none⟩ = some (.slice none 0 0) ∧ w'.cell? ⟨B12, 5, none⟩ = some (.slice oLu l cLu) ∧ w'.cell? ⟨B12, 6, none⟩ = some (.slice oEu m cEu)) := fun w' h => HQu.out w' (bStep HSt.out (bStep HSv.out h))
 have HG13 : Hid (∀ w', Below wbv1.heap.size wbv1 w' → w'.cell? ⟨B13, 0, none⟩ = some (.slice oat na cat) ∧ w'.cell? ⟨B13, 1, none⟩ = some (.slice obt nb cbt) ∧ w'.cell? ⟨B13, 2, none⟩ = some (.slice oct nc cct) ∧ w'.cell? ⟨B13, 3, none⟩ = some (.slice none 0 0)) := fun w' h => HQt.out w' (bStep HSv.out h)
 have HG14 : Hid (∀ w', Below wbv1.heap.size wbv1 w' → w'.cell? ⟨B14, 0, none⟩ = some (.int .i64 F) ∧ w'.cell? ⟨B14, 1, none⟩ = some (.int .i64 A) ∧ w'.cell? ⟨B14, 2, none⟩ = some (.int .i64 I) ∧ w'.cell? ⟨B14, 3, none⟩ = some (.slice oNv n cNv) ∧ w'.cell? ⟨B14, 4, none⟩ = some (.slice none 0 0) ∧ w'.cell? ⟨B14, 5, none⟩ = some (.slice none 0 0) ∧ w'.cell? ⟨B14, 6, none⟩ = some (.slice oEv m cEv)) := fun w' h => HQv.out w' h
 have HCg4 : Hid (∀ w', Below wbv1.heap.size wbv1 w' → Cir w' (.slice oNg n cNg) (.slice oGg g cGg) (.slice none 0 0) (.slice oEg m cEg) n T g G 0 fg ni nt In Tb m E) := fun w' h => HCg.out w' (bStep HSu.out (bStep HSt.out (bStep HSv.out h)))
 have HCu4 : Hid (∀ w', Below wbv1.heap.size wbv1 w' → Cir w' (.slice oNu n cNu) (.slice none 0 0) (.slice oLu l cLu) (.slice oEu m cEu) n T 0 G l fu ni nt In Tb m E) := fun w' h => HCu.out w' (bStep HSt.out (bStep HSv.out h))
 have HCt4 : Hid (∀ w', Below wbv1.heap.size wbv1 w' → ShQ w' (.slice oat na cat) (.slice obt nb cbt) (.slice oct nc cct) (.slice none 0 0) na Fat La Ea nb Fbt Lb Eb nc Fct Lc Ec 0 P) := fun w' h => HCt.out w' (bStep HSv.out h)
 have HCv4 : Hid (∀ w', Below wbv1.heap.size wbv1 w' → Cir w' (.slice oNv n cNv) (.slice none 0 0) (.slice none 0 0) (.slice oEv m cEv) n T 0 G 0 fv ni nt In Tb m E) := fun w' h => HCv.out w' h
 have HX4 : Hid (Fs wbv1 (.slice oX NX cX) XS ∧ NX = XS.length) := ⟨(((HXF.out.1.below HSg.out).below HSu.out).below HSt.out).below HSv.out, HXF.out.2⟩
 have HCT : Hid (∀ w', Below wbv1.heap.size wbv1 w' → Calls _ _ _ w' _) := fun w' h => copyS_any oat obt oct none na cat nb cbt nc cct 0 0 Fat Fbt Fct La Lb Lc Ea Eb Ec P (by have := HSZ.out; omega) (by have := HSZ.out; omega) (by have := HSZ.out; omega) (by decide) HLL.out.1 HLL.out.2.1 HLL.out.2.2 w' (HCt4.out w' h)
 clear HQg HQu HQt HQv HCg HCu HCt HCv HXF HSg HSu HSt HSv
 refine wp_region_Z (fun w' => Below wbv1.heap.size wbv1 w') 99 (by kernel_rfl) ?_
 obtain ⟨wD, hD⟩ : ∃ z : World, z = wbv1.drew := ⟨_, rfl⟩
 rw [← hD]
 have hp0 : Below wbv1.heap.size wbv1 wD := by rw [hD]; exact (Below.refl _ _).drew
 clear hD
 refine zt 0 53 (.int .i64 s) rfl rfl (fun w hSw => by go_simp) hp0 ?_
 simp only [Act.put, z1]
 (try dsimp only [z2, z3])
 refine zt 1 54 (.agg #[.int .i64 F, .int .i64 A, .int .i64 I, .slice oNg n cNg, .slice oGg g cGg, .slice none 0 0, .slice oEg m cEg]) rfl rfl (fun w hSw => by obtain ⟨q0, q1, q2, q3, q4, q5, q6⟩ := HG11.out w hSw; clear hSw; go_simp) hp0 ?_
 simp only [Act.put, z1]
 (try dsimp only [z2, z3])
 refine zt 2 55 (.int .i64 k) rfl rfl (fun w hSw => by go_simp) hp0 ?_
 simp only [Act.put, z1]
 (try dsimp only [z2, z3])
 refine zt 3 56 (.agg #[.slice oat na cat, .slice obt nb cbt, .slice oct nc cct, .slice none 0 0]) rfl rfl (fun w hSw => by obtain ⟨r0, r1, r2, r3⟩ := HG13.out w hSw; clear hSw; go_simp) hp0 ?_
 simp only [Act.put, z1]
 (try dsimp only [z2, z3])
 refine wpZ_one (i := 4) (by kernel_rfl) rfl (fun K hK => ?_)
 go_simp
 refine Calls.mono (HCT.out wD hp0) ?_
 rintro e wK1 ⟨oax, obx, ocx, odx, cax, cbx, ccx, cdx, Fax, Fbx, Fcx, rfl, hsx, hbK1⟩
 have hpK1 : Below wbv1.heap.size wbv1 wK1 := bStep hp0 hbK1
 clear hbK1
 go_wp2_with fail
 refine hK.out _ _ (fun _ => hpK1) ?_
 clear hK K
 refine wpZ_one (i := 5) (by kernel_rfl) rfl (fun K hK => ?_)
 go_simp
 refine Calls.mono (faults_part s F A I oNg oGg none oEg oax obx ocx odx n cNg g cGg 0 0 m cEg na cax nb cbx nc ccx 0 cdx k fg ni nt In Tb T G E Fax Fbx Fcx La Lb Lc Ea Eb Ec P (by have := HSZ.out; omega) HRG.out (by have := HSZ.out; omega) (by have := HSZ.out; omega) (by have := HSZ.out; omega) (by have := HSZ.out; omega) HTT.out HRN.out HSR.out (part_ek HEK.out.symm g 0 0 (Or.inl rfl) (Or.inr rfl) (Or.inr rfl)) wK1 (HGL.out wK1 (bStep HBwbv1.out hpK1)) (HCg4.out wK1 hpK1) hsx) ?_
 rintro e wK2 ⟨⟨oP, NP, cP, rfl, hP, hnP⟩, hbK2⟩
 have hpK2 : Below wbv1.heap.size wbv1 wK2 := bStep hpK1 hbK2
 clear hbK2
 go_wp2_with fail
 refine hK.out _ _ (fun _ => hpK2) ?_
 clear hK K
 refine zt 6 52 (.tuple #[.slice oP NP cP, .int .i64 0]) rfl rfl (fun w hSw => by go_simp) hpK2 ?_
 simp only [Act.put, z1]
 (try dsimp only [z2, z3])
 refine zt 7 59 (.slice oP NP cP) rfl rfl (fun w hSw => by go_simp) hpK2 ?_
 simp only [Act.put, z1]
 (try dsimp only [z2, z3])
 refine zt 8 60 (.int .i64 0) rfl rfl (fun w hSw => by go_simp) hpK2 ?_
 simp only [Act.put, z1]
 (try dsimp only [z2, z3])
 refine zt 9 15 (.slice oP NP cP) rfl rfl (fun w hSw => by go_simp) hpK2 ?_
 simp only [Act.put, z1]
 (try dsimp only [z2, z3])
 refine zt 10 16 (.int .i64 0) rfl rfl (fun w hSw => by go_simp) hpK2 ?_
 simp only [Act.put, z1]
 (try dsimp only [z2, z3])
 refine wpZ_done (by kernel_rfl) ?_ _
 have HP : Hid (Fs wK2 (.slice oP NP cP) (allF s.toNat na La Ea nb Lb Eb nc Lc Ec k.toNat T n G g ni nt In Tb 0 E P 0) ∧ NP = (allF s.toNat na La Ea nb Lb Eb nc Lc Ec k.toNat T n G g ni nt In Tb 0 E P 0).length) := ⟨hP, hnP⟩
 have HS17 : Hid (Below wbv1.heap.size wbv1 wK2) := hpK2
 obtain ⟨w17, ew17⟩ : ∃ x : World, x = wK2 := ⟨_, rfl⟩
 rw [← ew17] at HP HS17 ⊢
 clear hp0 hpK1 hpK2 hsx hP hnP ew17
 go_upto_region 18 with fail
 obtain ⟨q0, q1, q2, q3, q4, q5, q6⟩ := HG12.out w17 HS17.out
 obtain ⟨r0, r1, r2, r3⟩ := HG13.out w17 HS17.out
 have HCF : Hid (Calls _ _ _ _ _) := faults_part s F A I oNu none oLu oEu oat obt oct none n cNu 0 0 l cLu m cEu na cat nb cbt nc cct 0 0 k fu ni nt In Tb T G E Fat Fbt Fct La Lb Lc Ea Eb Ec P (by have := HSZ.out; omega) HRG.out (by have := HSZ.out; omega) (by have := HSZ.out; omega) (by have := HSZ.out; omega) (by have := HSZ.out; omega) HTT.out HRN.out HSR.out (part_ek HEK.out.symm 0 l 0 (Or.inr rfl) (Or.inl rfl) (Or.inr rfl)) w17 (HGL.out w17 (bStep HBwbv1.out HS17.out)) (HCu4.out w17 HS17.out) (HCt4.out w17 HS17.out)
 go_wp2_with fail
 refine Calls.mono HCF.out ?_
 rintro e w18 ⟨⟨oQ, NQ, cQ, rfl, hQ, hnQ⟩, hb18⟩
 have HQ : Hid (Fs w18 (.slice oQ NQ cQ) (allF s.toNat na La Ea nb Lb Eb nc Lc Ec k.toNat T n G 0 ni nt In Tb l E P 0) ∧ NQ = (allF s.toNat na La Ea nb Lb Eb nc Lc Ec k.toNat T n G 0 ni nt In Tb l E P 0).length) := ⟨hQ, hnQ⟩
 have HP18 : Hid (Fs w18 (.slice oP NP cP) (allF s.toNat na La Ea nb Lb Eb nc Lc Ec k.toNat T n G g ni nt In Tb 0 E P 0) ∧ NP = (allF s.toNat na La Ea nb Lb Eb nc Lc Ec k.toNat T n G g ni nt In Tb 0 E P 0).length) := ⟨HP.out.1.below hb18, HP.out.2⟩
 have HS18 : Hid (Below wbv1.heap.size wbv1 w18) := bStep HS17.out hb18
 have HB18 : Hid (Below w2.heap.size w2 w18) := bStep HBwbv1.out HS18.out
 clear HCF hb18 hQ hnQ HP HS17 q0 q1 q2 q3 q4 q5 q6 r0 r1 r2 r3
 go_upto_region 19 with fail
 refine wp_region_Z (fun w' => Below w18.heap.size w18 w') 99 (by kernel_rfl) ?_
 obtain ⟨wD, hD⟩ : ∃ z : World, z = w18.drew := ⟨_, rfl⟩
 rw [← hD]
 have hp0 : Below w18.heap.size w18 wD := by rw [hD]; exact (Below.refl _ _).drew
 clear hD
 refine zt 0 70 (.int .i64 s) rfl rfl (fun w hSw => by go_simp) hp0 ?_
 simp only [Act.put, z1]
 (try dsimp only [z2, z3])
 refine zt 1 71 (.agg #[.int .i64 F, .int .i64 A, .int .i64 I, .slice oNv n cNv, .slice none 0 0, .slice none 0 0, .slice oEv m cEv]) rfl rfl (fun w hSw => by obtain ⟨q0, q1, q2, q3, q4, q5, q6⟩ := HG14.out w (bStep HS18.out hSw); clear hSw; go_simp) hp0 ?_
 simp only [Act.put, z1]
 (try dsimp only [z2, z3])
 refine zt 2 72 (.int .i64 k) rfl rfl (fun w hSw => by go_simp) hp0 ?_
 simp only [Act.put, z1]
 (try dsimp only [z2, z3])
 refine zt 3 73 (.agg #[.slice oa na ca, .slice ob nb cb, .slice oc nc cc, .slice od nd cd]) rfl rfl (fun w hSw => by obtain ⟨r0, r1, r2, r3⟩ := HF7.out w (bStep HB18.out hSw); clear hSw; go_simp) hp0 ?_
 simp only [Act.put, z1]
 (try dsimp only [z2, z3])
 refine wpZ_one (i := 4) (by kernel_rfl) rfl (fun K hK => ?_)
 go_simp
 refine Calls.mono (HCS.out wD (bStep HB18.out hp0)) ?_
 rintro e wK1 ⟨oay, oby, ocy, ody, cay, cby, ccy, cdy, Fay, Fby, Fcy, rfl, hsy, hbK1⟩
 have hpK1 : Below w18.heap.size w18 wK1 := bStep hp0 hbK1
 clear hbK1
 go_wp2_with fail
 refine hK.out _ _ (fun _ => hpK1) ?_
 clear hK K
 refine wpZ_one (i := 5) (by kernel_rfl) rfl (fun K hK => ?_)
 go_simp
 refine Calls.mono (faults_part s F A I oNv none none oEv oay oby ocy ody n cNv 0 0 0 0 m cEv na cay nb cby nc ccy nd cdy k fv ni nt In Tb T G E Fay Fby Fcy La Lb Lc Ea Eb Ec P (by have := HSZ.out; omega) HRG.out (by have := HSZ.out; omega) (by have := HSZ.out; omega) (by have := HSZ.out; omega) (by have := HSZ.out; omega) HTT.out HRN.out HSR.out (part_ek HEK.out.symm 0 0 nd (Or.inr rfl) (Or.inr rfl) (Or.inl rfl)) wK1 (HGL.out wK1 (bStep HB18.out hpK1)) (HCv4.out wK1 (bStep HS18.out hpK1)) hsy) ?_
 rintro e wK2 ⟨⟨oR, NR, cR, rfl, hR, hnR⟩, hbK2⟩
 have hpK2 : Below w18.heap.size w18 wK2 := bStep hpK1 hbK2
 clear hbK2
 go_wp2_with fail
 refine hK.out _ _ (fun _ => hpK2) ?_
 clear hK K
 refine zt 6 69 (.tuple #[.slice oR NR cR, .int .i64 0]) rfl rfl (fun w hSw => by go_simp) hpK2 ?_
 simp only [Act.put, z1]
 (try dsimp only [z2, z3])
 refine zt 7 76 (.slice oR NR cR) rfl rfl (fun w hSw => by go_simp) hpK2 ?_
 simp only [Act.put, z1]
 (try dsimp only [z2, z3])
 refine zt 8 77 (.int .i64 0) rfl rfl (fun w hSw => by go_simp) hpK2 ?_
 simp only [Act.put, z1]
 (try dsimp only [z2, z3])
 refine zt 9 19 (.slice oR NR cR) rfl rfl (fun w hSw => by go_simp) hpK2 ?_
 simp only [Act.put, z1]
 (try dsimp only [z2, z3])
 refine zt 10 20 (.int .i64 0) rfl rfl (fun w hSw => by go_simp) hpK2 ?_
 simp only [Act.put, z1]
 (try dsimp only [z2, z3])
 refine wpZ_done (by kernel_rfl) ?_ _
 have HR : Hid (Fs wK2 (.slice oR NR cR) (allF s.toNat na La Ea nb Lb Eb nc Lc Ec k.toNat T n G 0 ni nt In Tb 0 E P nd) ∧ NR = (allF s.toNat na La Ea nb Lb Eb nc Lc Ec k.toNat T n G 0 ni nt In Tb 0 E P nd).length) := ⟨hR, hnR⟩
 have HS19 : Hid (Below w18.heap.size w18 wK2) := hpK2
 obtain ⟨w19, ew19⟩ : ∃ x : World, x = wK2 := ⟨_, rfl⟩
 rw [← ew19] at HR HS19 ⊢
 clear hp0 hpK1 hpK2 hsy hR hnR ew19
 go_upto_region 20 with fail
 have h19 : Below wbv1.heap.size wbv1 w19 := bStep HS18.out HS19.out
 obtain ⟨P1, eP1⟩ : ∃ x, x = allF s.toNat na La Ea nb Lb Eb nc Lc Ec k.toNat T n G g ni nt In Tb 0 E P 0 := ⟨_, rfl⟩
 obtain ⟨Q1, eQ1⟩ : ∃ x, x = allF s.toNat na La Ea nb Lb Eb nc Lc Ec k.toNat T n G 0 ni nt In Tb l E P 0 := ⟨_, rfl⟩
 obtain ⟨R1, eR1⟩ : ∃ x, x = allF s.toNat na La Ea nb Lb Eb nc Lc Ec k.toNat T n G 0 ni nt In Tb 0 E P nd := ⟨_, rfl⟩
 have HXS : Hid (P1 ++ Q1 ++ R1 = XS) := by
  show P1 ++ Q1 ++ R1 = XS
  rw [eP1, eQ1, eR1, HXE.out]
  unfold allF
  show (gtL _ _ _ g ++ [] ++ []) ++ ([] ++ lkL _ ni nt In Tb _ l ++ []) ++ ([] ++ [] ++ cpL _ nd) = _
  simp
 have HFP : Hid (∀ w', Below w19.heap.size w19 w' → Fs w' (.slice oP NP cP) P1) := fun w' h => by rw [eP1]; exact (HP18.out.1.below HS19.out).below h
 have HFQ : Hid (∀ w', Below w19.heap.size w19 w' → Fs w' (.slice oQ NQ cQ) Q1) := fun w' h => by rw [eQ1]; exact (HQ.out.1.below HS19.out).below h
 have HFR : Hid (∀ w', Below w19.heap.size w19 w' → Fs w' (.slice oR NR cR) R1) := fun w' h => by rw [eR1]; exact HR.out.1.below h
 have HFX : Hid (∀ w', Below w19.heap.size w19 w' → Fs w' (.slice oX NX cX) XS) := fun w' h => (HX4.out.1.below h19).below h
 have HNNP : Hid (NP = P1.length) := by show NP = _; rw [eP1]; exact HP18.out.2
 have HNNQ : Hid (NQ = Q1.length) := by show NQ = _; rw [eQ1]; exact HQ.out.2
 have HNNR : Hid (NR = R1.length) := by show NR = _; rw [eR1]; exact HR.out.2
 have HLQ : Hid (NP ≤ 100000 ∧ NQ ≤ 100000 ∧ NR ≤ 100000 ∧ NX ≤ 1000000) := by
  have hz := fek_zero HEK.out.symm
  have hrt := (cir_zero hz.2.1).2
  have h := allF_len s.toNat na La Ea nb Lb Eb nc Lc Ec k.toNat T n G g ni nt In Tb l E P nd (by omega) (by omega) hrt (by have := HSZ.out; omega)
  have e1 := HX4.out.2
  rw [HXE.out] at e1
  have e2 : XS.length = P1.length + Q1.length + R1.length := by rw [← HXS.out, List.length_append, List.length_append]
  rw [HXE.out] at e2
  have e3 := HNNP.out
  have e4 := HNNQ.out
  have e5 := HNNR.out
  exact ⟨by omega, by omega, by omega, by omega⟩
 have HB19 : Hid (Below w.heap.size w w19) := bStep HB2.out (bStep HB18.out HS19.out)
 have HNX : Hid (NX = XS.length) := HX4.out.2
 clear h19 eP1 eQ1 eR1 HP18 HQ HR HX4 HG11 HG12 HG13 HG14 HCg4 HCu4 HCt4 HCv4 HCT HS18 HS19 HEK HXE
 obtain ⟨ifa, hif, hf0, hf1, hf2⟩ := ftInf
 have HIF := (show Hid _ from hif); have HZF := (show Hid _ from And.intro hf0 (And.intro hf1 hf2)); clear hif hf0 hf1 hf2
 obtain ⟨w20, hw20⟩ : ∃ x : World, x = w19.alloc (.cells #[] 58) := ⟨_, rfl⟩
 have HWw20 : Hid (Below w19.heap.size w19 w20) := by show Below w19.heap.size w19 w20; rw [hw20]; exact bAlloc (Below.refl _ _) _
 have HO2 : Hid (w20.ownsRow w19.heap.size 58 3 (.slice (some ⟨w19.heap.size, 0, none⟩) 0 0) 0 (rwl 3 (fun _ _ => undef) 0)) := by rw [hw20]; exact own_new w19 58 3
 obtain ⟨Gq, eGq⟩ : ∃ f : Nat → Nat → Value, f = fun ii => qC (P1.getD ii (0, 0, 0)) := ⟨_, rfl⟩
 have HR2 : Hid (Rs w20 (.slice oP NP cP) 3 NP Gq) := by rw [eGq]; have h := HFP.out w20 HWw20.out; unfold Fs at h; rw [← HNNP.out] at h; exact h
 have h1c : ∀ i, i < NP → ∀ jj, jj < 3 → (Gq i jj).oneCell' = true := fun i _ jj _ => by rw [eGq]; exact qC_one _ _
 have HGQ : Hid (Gq = fun ii => qC (P1.getD ii (0, 0, 0))) := eGq
 clear eGq
 go_wp2_with (first
  | (at_builtin; rw [← hw20]; refine wpList_appR _ rfl _ _ 45 rfl w19.heap.size 58 ifa (.agg #[.int .i64 0, .int .i64 0, .int .i64 0]) 3 24 Tryz.underlying45 HIF.out HZF.out.1 HZF.out.2.1 HZF.out.2.2 rfl (by decide) _ 0 _ rfl HO2.out NP _ _ rfl HR2.out h1c ?c1 ?c2 HWw20.out.size ?_)
  | go_in)
 case c1 => have := HLQ.out; unfold maxLen; omega
 case c2 => have := HLQ.out; omega
 intro v7 w21 hown7 hg7 hsep7
 have hown : w21.ownsRow w19.heap.size 58 3 v7 NP (rwl 3 Gq NP) := by simpa only [Nat.zero_add, Nat.not_lt_zero, if_false, Nat.sub_zero] using hown7
 have HWw21 : Hid (Below w19.heap.size w19 w21) := HWw20.out.grown (by rw [hw20]; exact hg7) HWw20.out.size (fun b hb => own_ge HO2.out hb)
 obtain ⟨ol, cl, hsh, _⟩ := own_shape hown
 subst hsh
 have HJw21 : Hid (FlO w21 (.slice ol NP cl) w19.heap.size P1) := by
  show FlO w21 (.slice ol NP cl) w19.heap.size P1
  unfold FlO
  rw [← HNNP.out, ← HGQ.out]
  exact hown
 clear hown7 hg7 hsep7 hown HO2 HR2 h1c HGQ hw20
 go_upto_region 21 with fail
 obtain ⟨Fq, eFq⟩ : ∃ f : Nat → Nat → Value, f = fun ii => qC ((P1).getD ii (0, 0, 0)) := ⟨_, rfl⟩
 obtain ⟨Gq, eGq⟩ : ∃ f : Nat → Nat → Value, f = fun ii => qC (Q1.getD ii (0, 0, 0)) := ⟨_, rfl⟩
 have HO2 : Hid (w21.ownsRow w19.heap.size 58 3 (.slice ol NP cl) NP (rwl 3 Fq NP)) := by rw [eFq, HNNP.out]; have h := HJw21.out; rw [HNNP.out] at h; exact h
 have HR2 : Hid (Rs w21 (.slice oQ NQ cQ) 3 NQ Gq) := by rw [eGq]; have h := (HFQ.out w21 HWw21.out); unfold Fs at h; rw [← HNNQ.out] at h; exact h
 have HQ2 : Hid (Fq = (fun ii => qC ((P1).getD ii (0, 0, 0))) ∧ Gq = fun ii => qC (Q1.getD ii (0, 0, 0))) := ⟨eFq, eGq⟩
 have h1c : ∀ i, i < NQ → ∀ jj, jj < 3 → (Gq i jj).oneCell' = true := fun i _ jj _ => by rw [eGq]; exact qC_one _ _
 have HSZ2 : Hid (w19.heap.size ≤ w21.heap.size) := HWw21.out.size
 clear eFq eGq
 go_wp2_with (first
  | (at_builtin; refine wpList_appR _ rfl _ _ 45 rfl w19.heap.size 58 ifa (.agg #[.int .i64 0, .int .i64 0, .int .i64 0]) 3 24 Tryz.underlying45 HIF.out HZF.out.1 HZF.out.2.1 HZF.out.2.2 rfl (by decide) _ NP _ rfl HO2.out NQ _ _ rfl HR2.out h1c ?c1 ?c2 HSZ2.out ?_)
  | go_in)
 case c1 => have := HLQ.out; unfold maxLen; omega
 case c2 => have := HLQ.out; omega
 intro v7 w22 hown7 hg7 hsep7
 have hj : FlO w22 v7 w19.heap.size (P1 ++ Q1) := FlO.app HNNP.out HNNQ.out HQ2.out.1 HQ2.out.2 hown7
 have HWw22 : Hid (Below w19.heap.size w19 w22) := HWw21.out.grown hg7 HWw21.out.size (fun b hb => own_ge HO2.out hb)
 obtain ⟨ola, cla, hsh, _⟩ := own_shape hown7
 subst hsh
 obtain ⟨NPa, eNPa⟩ : ∃ x, x = NP + NQ := ⟨_, rfl⟩
 rw [← eNPa] at hj ⊢
 have HJw22 : Hid (FlO w22 (.slice ola NPa cla) w19.heap.size (P1 ++ Q1)) := hj
 have HNNPa : Hid (NPa = (P1 ++ Q1).length) := by show NPa = _; rw [List.length_append, eNPa, HNNP.out, HNNQ.out]
 have HEa : Hid (NPa = NP + NQ) := eNPa
 clear hown7 hg7 hsep7 hj HO2 HR2 HQ2 h1c HSZ2 eNPa
 go_upto_region 22 with fail
 obtain ⟨Fq, eFq⟩ : ∃ f : Nat → Nat → Value, f = fun ii => qC ((P1 ++ Q1).getD ii (0, 0, 0)) := ⟨_, rfl⟩
 obtain ⟨Gq, eGq⟩ : ∃ f : Nat → Nat → Value, f = fun ii => qC (R1.getD ii (0, 0, 0)) := ⟨_, rfl⟩
 have HO2 : Hid (w22.ownsRow w19.heap.size 58 3 (.slice ola NPa cla) NPa (rwl 3 Fq NPa)) := by rw [eFq, HNNPa.out]; have h := HJw22.out; rw [HNNPa.out] at h; exact h
 have HR2 : Hid (Rs w22 (.slice oR NR cR) 3 NR Gq) := by rw [eGq]; have h := (HFR.out w22 HWw22.out); unfold Fs at h; rw [← HNNR.out] at h; exact h
 have HQ2 : Hid (Fq = (fun ii => qC ((P1 ++ Q1).getD ii (0, 0, 0))) ∧ Gq = fun ii => qC (R1.getD ii (0, 0, 0))) := ⟨eFq, eGq⟩
 have h1c : ∀ i, i < NR → ∀ jj, jj < 3 → (Gq i jj).oneCell' = true := fun i _ jj _ => by rw [eGq]; exact qC_one _ _
 have HSZ2 : Hid (w19.heap.size ≤ w22.heap.size) := HWw22.out.size
 clear eFq eGq
 go_wp2_with (first
  | (at_builtin; refine wpList_appR _ rfl _ _ 45 rfl w19.heap.size 58 ifa (.agg #[.int .i64 0, .int .i64 0, .int .i64 0]) 3 24 Tryz.underlying45 HIF.out HZF.out.1 HZF.out.2.1 HZF.out.2.2 rfl (by decide) _ NPa _ rfl HO2.out NR _ _ rfl HR2.out h1c ?c1 ?c2 HSZ2.out ?_)
  | go_in)
 case c1 => have := HLQ.out; have := HEa.out; unfold maxLen; omega
 case c2 => have := HLQ.out; have := HEa.out; omega
 intro v7 w23 hown7 hg7 hsep7
 have hj : FlO w23 v7 w19.heap.size (P1 ++ Q1 ++ R1) := FlO.app HNNPa.out HNNR.out HQ2.out.1 HQ2.out.2 hown7
 have HWw23 : Hid (Below w19.heap.size w19 w23) := HWw22.out.grown hg7 HWw22.out.size (fun b hb => own_ge HO2.out hb)
 obtain ⟨olab, clab, hsh, _⟩ := own_shape hown7
 subst hsh
 obtain ⟨NPab, eNPab⟩ : ∃ x, x = NPa + NR := ⟨_, rfl⟩
 rw [← eNPab] at hj ⊢
 have HJw23 : Hid (FlO w23 (.slice olab NPab clab) w19.heap.size (P1 ++ Q1 ++ R1)) := hj
 have HNNPab : Hid (NPab = (P1 ++ Q1 ++ R1).length) := by show NPab = _; rw [List.length_append, eNPab, HNNPa.out, HNNR.out]
 have HEb : Hid (NPab = NPa + NR) := eNPab
 clear hown7 hg7 hsep7 hj HO2 HR2 HQ2 h1c HSZ2 eNPab
 go_upto_region 23 with fail
 have HSM : Hid (Calls _ _ _ _ _) := same_any XS NX clab cX olab oX HNX.out (by have := HLQ.out; omega) w23 (by
  have h := HJw23.out.fs
  rw [HXS.out] at h
  have e : NPab = NX := by rw [HNX.out, ← HXS.out]; exact HNNPab.out
  rw [e] at h
  exact h) (HFX.out w23 HWw23.out)
 have HEN : Hid (NPab = NX) := by show NPab = NX; rw [HNX.out, ← HXS.out]; exact HNNPab.out
 rw [HEN.out]
 go_wp2_with fail
 refine Calls.mono HSM.out ?_
 rintro e w24 ⟨rfl, hb24⟩
 have HBF : Hid (Below w.heap.size w w24) := bStep (HB19.out.trans (Below.mono HWw23.out HB19.out.size)) hb24
 clear hb24 HSM
 go_wp2
 go_ret
 exact ⟨rfl, HBF.out⟩
end Go.Proofs.YtgkfjpbgdhmhmaaGreatDoor
